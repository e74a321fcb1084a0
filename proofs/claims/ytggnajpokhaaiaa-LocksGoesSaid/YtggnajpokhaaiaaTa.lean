/-
 sorting numbers of 64 bits: the library's text told.
-/
import Derived.Test.YtggnajpokhaaiaaKs
import Derived.Test.YtggnajpokhaaiaaKn
import Derived.Test.YtggnajpokhaaiaaWiX
namespace Go.Proofs.Ytggnajpokhaaiaa
open Go.RowKit
set_option linter.unusedVariables false
set_option linter.unusedSectionVars false
set_option linter.unusedSimpArgs false
theorem El37 : Elem Try.prog 37 30 1 8 := elem_of (z := .int .u64 0) Try.underlying37 (by kernel_rfl) rfl (by decide)
def cmp_isNaN_uint64 (p0 : Nat) : Bool :=
 false
set_option maxRecDepth 100000 in
theorem cmp_isNaN_uint64_ok (w : World) (D : Nat → Prop) (p0 : Nat) (r0 : Bool) (H : Own w D w [])  (hr : cmp_isNaN_uint64 p0 = r0) :
    Calls Try.prog 69 #[.int .u64 ((p0 : Nat) : Int)] w (Ret fun v w' => v = .bool r0 ∧ Own w D w' []) := by
 refine Calls.body (args := [.int .u64 ((p0 : Nat) : Int)]) Try.func69 rfl rfl rfl ?_
 show Wp _ _ _ [(0, .int .u64 ((p0 : Nat) : Int))] _ _
 refine sr (Ar rfl (Mz rfl (Mz rfl (fw (.bool false) (Yl.bool (e := !(decide (((p0 : Nat) : Int) = ((p0 : Nat) : Int)))) yk (by simp)) (An rfl (rt (rs ?_)))))))
 have H21 : Own w D w [] := H.pk []
 obtain rfl : _ = false := hr.symm.trans rfl
 exact ⟨rfl, H21⟩
def cmp_Less_uint64 (p0 : Nat) (p1 : Nat) : Bool :=
 bnd (cmp_isNaN_uint64 p0) fun yr26 => if yr26 = true then bnd (cmp_isNaN_uint64 p1) fun yr37 => if yr37 = true then decide (((p0 : Nat) : Int) < ((p1 : Nat) : Int)) else true else decide (((p0 : Nat) : Int) < ((p1 : Nat) : Int))
set_option maxRecDepth 100000 in
theorem cmp_Less_uint64_ok (w : World) (D : Nat → Prop) (p0 : Nat) (p1 : Nat) (r0 : Bool) (H : Own w D w [])  (hr : cmp_Less_uint64 p0 p1 = r0) :
    Calls Try.prog 78 #[.int .u64 ((p0 : Nat) : Int), .int .u64 ((p1 : Nat) : Int)] w (Ret fun v w' => v = .bool r0 ∧ Own w D w' []) := by
 refine Calls.body (args := [.int .u64 ((p0 : Nat) : Int), .int .u64 ((p1 : Nat) : Int)]) Try.func78 rfl rfl rfl ?_
 show Wp _ _ _ [(0, .int .u64 ((p0 : Nat) : Int)), (1, .int .u64 ((p1 : Nat) : Int))] _ _
 refine sr (Ar rfl (Mz rfl ?_))
 obtain ⟨r26, hr27⟩ : ∃ q, cmp_isNaN_uint64 p0 = q := ⟨_, rfl⟩
 obtain ⟨D21, HP22, ro23, bk24, rr25⟩ := Own.enter0 H
 refine cl Try.call69 (cmp_isNaN_uint64_ok _ _ p0 r26 HP22 hr27) ?_
 rintro _ w28 ⟨rfl, HQ29⟩
 have H30 := bk24 _ _ HQ29
 refine Mz rfl ?_
 rcases Bool.eq_false_or_eq_true (r26) with h31 | h31
 refine WL.valG (v := .int .u64 ((p1 : Nat) : Int)) rfl rfl h31 rfl (Yl.move rfl) ?_
 obtain ⟨r37, hr38⟩ : ∃ q, cmp_isNaN_uint64 p1 = q := ⟨_, rfl⟩
 obtain ⟨D32, HP33, ro34, bk35, rr36⟩ := Own.enter0 H30
 refine WL.doG rfl rfl h31 rfl (Do.call Try.call69 rfl (cmp_isNaN_uint64_ok _ _ p1 r37 HP33 hr38) ?_)
 rintro _ w39 ⟨rfl, HQ40⟩
 have H41 := bk35 _ _ HQ40
 refine Gz (.bool (!r37)) h31 (fw (.bool (!r37)) (Yl.pickT rfl h31 rfl) (Mz rfl ?_))
 rcases Bool.eq_false_or_eq_true (r37) with h42 | h42
 refine gw (.int .u64 ((p0 : Nat) : Int)) (cn h42) (Yl.move rfl) (gw (.int .u64 ((p1 : Nat) : Int)) (cn h42) (Yl.move rfl) (Gz (.bool (decide (((p0 : Nat) : Int) < ((p1 : Nat) : Int)))) (cn h42) (fw (.bool (decide (((p0 : Nat) : Int) < ((p1 : Nat) : Int)))) (Yl.pickF rfl (cn h42) rfl) (An rfl (rt (rs ?_))))))
 have H43 := H41.pk []
 obtain rfl : _ = decide (((p0 : Nat) : Int) < ((p1 : Nat) : Int)) := hr.symm.trans (et (bnd_of hr27) (et (ip h31) (et (bnd_of hr38) (ip h42))))
 exact ⟨rfl, H43⟩
 refine Sz (cn h42) (Sz (cn h42) (Sz (cn h42) (fw (.bool true) (Yl.pickT rfl (cn h42) rfl) (An rfl (rt (rs ?_))))))
 have H44 := H41.pk []
 obtain rfl : _ = true := hr.symm.trans (et (bnd_of hr27) (et (ip h31) (et (bnd_of hr38) (ifF h42))))
 exact ⟨rfl, H44⟩
 refine Sz h31 (Sz h31 (Sz h31 (fw (.bool false) (Yl.pickF rfl h31 rfl) (Mz rfl (gw (.int .u64 ((p0 : Nat) : Int)) rfl (Yl.move rfl) (gw (.int .u64 ((p1 : Nat) : Int)) rfl (Yl.move rfl) (Gz (.bool (decide (((p0 : Nat) : Int) < ((p1 : Nat) : Int)))) rfl (fw (.bool (decide (((p0 : Nat) : Int) < ((p1 : Nat) : Int)))) (Yl.pickF rfl rfl rfl) (An rfl (rt (rs ?_)))))))))))
 have H45 := H30.pk []
 obtain rfl : _ = decide (((p0 : Nat) : Int) < ((p1 : Nat) : Int)) := hr.symm.trans (et (bnd_of hr27) (ifF h31))
 exact ⟨rfl, H45⟩
def slices_insertionSortOrdered_uint64_L1 (p1 : Int) : Nat → Int → List Nat → (List Nat)
  | 0, z43, l44 => default
  | q45 + 1, z43, l44 => if z43 > p1 then bnd (List.getD l44 (Int.toNat z43) default) fun yx63 => bnd (List.getD l44 (Int.toNat (z43 - 1)) default) fun yx65 => bnd (cmp_Less_uint64 yx63 yx65) fun yr72 => if yr72 = true then slices_insertionSortOrdered_uint64_L1 p1 q45 (z43 - 1) (List.set (List.set l44 (Int.toNat z43) yx65) (Int.toNat (z43 - 1)) yx63) else l44 else l44
def slices_insertionSortOrdered_uint64_L0 (p1 : Int) (p2 : Int) : Nat → Int → List Nat → (List Nat)
  | 0, z21, l22 => default
  | q23 + 1, z21, l22 => if z21 < p2 then bnd (bnd (slices_insertionSortOrdered_uint64_L1 p1 ((Int.toNat (z21 - p1)) + 1) z21 l22) fun sLrLstJjL => sLrLstJjL) fun sJrLstJ => slices_insertionSortOrdered_uint64_L0 p1 p2 q23 (z21 + 1) sJrLstJ else l22
def slices_insertionSortOrdered_uint64 (l0 : List Nat) (p1 : Int) (p2 : Int) : (List Nat) :=
 bnd (slices_insertionSortOrdered_uint64_L0 p1 p2 ((Int.toNat (p2 - (p1 + 1))) + 1) (p1 + 1) l0) fun sLrL => sLrL
set_option maxRecDepth 100000 in
theorem slices_insertionSortOrdered_uint64_ok (w : World) (D : Nat → Prop) (A0 : Option Addr) (n0 c0 : Nat) (l0 : List Nat) (p1 : Int) (p2 : Int) (r0 : List Nat) (H : Own w D w [row A0 n0 c0 (List.flatMap (eN .u64) l0) 30 1]) (hn0 : n0 = l0.length) (hl0 : l0.length * 8 ≤ 211106232532992) (hh0 : 0 ≤ p1 ∧ p1 ≤ p2 ∧ p2 ≤ ((l0.length : Nat) : Int)) (hr : slices_insertionSortOrdered_uint64 l0 p1 p2 = r0) :
    Calls Try.prog 72 #[.slice A0 n0 c0, .int .i64 p1, .int .i64 p2] w (Ret fun v w' => v = .tuple #[] ∧ Own w D w' [row A0 n0 c0 (List.flatMap (eN .u64) r0) 30 1] ∧ (r0.length = l0.length)) := by
 subst hn0
 have hc0 := H.rowC (i := 0) rfl
 refine Calls.body (args := [.slice A0 l0.length c0, .int .i64 p1, .int .i64 p2]) Try.func72 rfl rfl rfl ?_
 show Wp _ _ _ [(0, .slice A0 l0.length c0), (1, .int .i64 p1), (2, .int .i64 p2)] _ _
 refine sr (Mz rfl (fw (.int .i64 (p1 + 1)) (Yl.int (e := IntKind.i64.wrap (p1 + 1)) yk (by rw [IntWalk.i64_in _ (by omega)])) (An rfl (bo ?_))))
 have H25 : Own w D w [row A0 l0.length c0 (List.flatMap (eN .u64) l0) 30 1] := H.pk [0]
 obtain ⟨I29, hI30⟩ : ∃ q : (Int × (List Nat) × Nat) → World → Prop, q = fun (i : Int × (List Nat) × Nat) w' => Own w D w' [row A0 l0.length c0 (List.flatMap (eN .u64) i.2.1) 30 1] ∧ (i.2.1.length = l0.length ∧ p1 + 1 ≤ i.1 ∧ Int.toNat (p2 - i.1) < i.2.2 ∧ slices_insertionSortOrdered_uint64_L0 p1 p2 ((Int.toNat (p2 - (p1 + 1))) + 1) (p1 + 1) l0 = slices_insertionSortOrdered_uint64_L0 p1 p2 i.2.2 i.1 i.2.1) := ⟨_, rfl⟩
 have dm31 : ∀ {z21 : Int} {l22 : List Nat} {f24 : Nat} {w' : World}, I29 (z21, l22, f24) w' ↔ Own w D w' [row A0 l0.length c0 (List.flatMap (eN .u64) l22) 30 1] ∧ l22.length = l0.length ∧ p1 + 1 ≤ z21 ∧ Int.toNat (p2 - z21) < f24 ∧ slices_insertionSortOrdered_uint64_L0 p1 p2 ((Int.toNat (p2 - (p1 + 1))) + 1) (p1 + 1) l0 = slices_insertionSortOrdered_uint64_L0 p1 p2 f24 z21 l22 := by intros; subst hI30; exact Iff.rfl
 refine Wp.loop (fun i : Int × (List Nat) × Nat => [(6, .int .i64 i.1), (0, .slice A0 l0.length c0), (1, .int .i64 p1), (2, .int .i64 p2)]) I29 (fun i => i.2.2) (p1 + 1, l0, (Int.toNat (p2 - (p1 + 1))) + 1) ⟨rfl, rfl, rfl, rfl, trivial⟩ (dm31.2 ⟨H25, by first | omega | (simp only [List.length_set] <;> omega) | (simp only [List.length_replicate]), by omega, by omega, rfl⟩) ?_
 rintro ⟨z21, l22, f24⟩ w26 hf28
 show Wp _ _ _ [(6, .int .i64 z21), (0, .slice A0 l0.length c0), (1, .int .i64 p1), (2, .int .i64 p2)] _ _
 obtain ⟨H27, hi33, hi34, hi35, hq32⟩ := dm31.1 hf28
 obtain ⟨f36, hf37⟩ : ∃ q, f24 = q + 1 := ⟨f24 - 1, by omega⟩
 subst hf37
 refine Wp.seq (sr (Mz rfl (Mz rfl (Kz (.bool (decide (z21 < p2))) (nt ?_)))))
 by_cases h38 : z21 < p2
 refine jT (dT h38) (sk (Wp.seq ?_))
 obtain ⟨I40, hI41⟩ : ∃ q : (List Nat) → World → Prop, q = fun (i : (List Nat)) w' => Own w D w' [row A0 l0.length c0 (List.flatMap (eN .u64) i) 30 1] ∧ (i.length = l0.length ∧ (bnd (slices_insertionSortOrdered_uint64_L1 p1 ((Int.toNat (z21 - p1)) + 1) z21 l22) fun sLrLstJjL => sLrLstJjL) = i) := ⟨_, rfl⟩
 have dm42 : ∀ {l39 : List Nat} {w' : World}, I40 l39 w' ↔ Own w D w' [row A0 l0.length c0 (List.flatMap (eN .u64) l39) 30 1] ∧ l39.length = l0.length ∧ (bnd (slices_insertionSortOrdered_uint64_L1 p1 ((Int.toNat (z21 - p1)) + 1) z21 l22) fun sLrLstJjL => sLrLstJjL) = l39 := by intros; subst hI41; exact Iff.rfl
 refine Wp.joinT (fun i : (List Nat) => [(6, .int .i64 z21), (0, .slice A0 l0.length c0), (1, .int .i64 p1), (2, .int .i64 p2)]) I40 ?_ ?_
 refine bo (sr (Mz rfl (An rfl (bo ?_))))
 have H47 := H27.pk [0]
 obtain ⟨I51, hI52⟩ : ∃ q : (Int × (List Nat) × Nat) → World → Prop, q = fun (i : Int × (List Nat) × Nat) w' => Own w D w' [row A0 l0.length c0 (List.flatMap (eN .u64) i.2.1) 30 1] ∧ (i.2.1.length = l0.length ∧ (p1 ≤ i.1 ∧ i.1 < p2) ∧ Int.toNat (i.1 - p1) < i.2.2 ∧ slices_insertionSortOrdered_uint64_L1 p1 ((Int.toNat (z21 - p1)) + 1) z21 l22 = slices_insertionSortOrdered_uint64_L1 p1 i.2.2 i.1 i.2.1) := ⟨_, rfl⟩
 have dm53 : ∀ {z43 : Int} {l44 : List Nat} {f46 : Nat} {w' : World}, I51 (z43, l44, f46) w' ↔ Own w D w' [row A0 l0.length c0 (List.flatMap (eN .u64) l44) 30 1] ∧ l44.length = l0.length ∧ (p1 ≤ z43 ∧ z43 < p2) ∧ Int.toNat (z43 - p1) < f46 ∧ slices_insertionSortOrdered_uint64_L1 p1 ((Int.toNat (z21 - p1)) + 1) z21 l22 = slices_insertionSortOrdered_uint64_L1 p1 f46 z43 l44 := by intros; subst hI52; exact Iff.rfl
 refine Wp.loop (fun i : Int × (List Nat) × Nat => [(7, .int .i64 i.1), (6, .int .i64 z21), (0, .slice A0 l0.length c0), (1, .int .i64 p1), (2, .int .i64 p2)]) I51 (fun i => i.2.2) (z21, l22, (Int.toNat (z21 - p1)) + 1) ⟨rfl, rfl, rfl, rfl, rfl, trivial⟩ (dm53.2 ⟨H47, by first | omega | (simp only [List.length_set] <;> omega) | (simp only [List.length_replicate]), by omega, by omega, rfl⟩) ?_
 rintro ⟨z43, l44, f46⟩ w48 hf50
 show Wp _ _ _ [(7, .int .i64 z43), (6, .int .i64 z21), (0, .slice A0 l0.length c0), (1, .int .i64 p1), (2, .int .i64 p2)] _ _
 obtain ⟨H49, hi55, hi56, hi57, hq54⟩ := dm53.1 hf50
 obtain ⟨f58, hf59⟩ : ∃ q, f46 = q + 1 := ⟨f46 - 1, by omega⟩
 subst hf59
 refine Wp.seq (Wp.seq ?_)
 have H61 := H49.drew
 refine Wp.drawnX [] (fun W => ∃ L', Own w D W ([row A0 l0.length c0 (List.flatMap (eN .u64) l44) 30 1] ++ L')) (by kernel_rfl) (by kernel_rfl) (NoP.then (NoP.then (NoP.then (NoP.block (NoP.block (NoP.then (NoP.then (NoP.block NoP.base)))))))) ⟨_, H61⟩ ?_
 revert H61
 generalize World.drew w48 = w60
 intro H61
 refine GX.take (v := .int .i64 z43) (rs := []) 0 rfl (by kernel_rfl) (fun _ _ => Yl.move rfl) (GX.take (v := .int .i64 p1) (rs := []) 1 rfl (by kernel_rfl) (fun _ _ => Yl.move rfl) (GX.take (v := .bool (decide (z43 > p1))) (rs := []) 2 rfl (by kernel_rfl) (fun _ _ => yk) (GX.take (v := .bool (decide (z43 > p1))) (rs := []) 3 rfl (by kernel_rfl) (fun _ _ => Yl.move rfl) ?_)))
 by_cases h62 : z43 > p1
 refine GX.takeG (v := .slice A0 l0.length c0) (rs := []) 4 rfl rfl rfl (dT h62) (by kernel_rfl) (fun _ _ => Yl.move rfl) (GX.takeG (v := .int .i64 ((Int.toNat z43 : Nat) : Int)) (rs := []) 5 rfl rfl rfl (dT h62) (by kernel_rfl) (fun _ _ => Yl.int (e := z43) (Yl.move rfl) (by omega)) ?_)
 obtain ⟨x63, hx64⟩ := at_of (ls := l44) (i := Int.toNat z43) (by first | omega | (simp; done) | (simp; omega))
 refine GX.takeG (v := .pointer (some ⟨ab A0, ao A0 + (Int.toNat z43) * 1, none⟩)) (rs := []) 6 rfl rfl rfl (dT h62) (by kernel_rfl) (fun _ ⟨_, H9⟩ => Yl.indexAddr (El37) rfl rfl ((H9.rds (i := 0) rfl).addr (i := Int.toNat z43) (by omega)) (by omega)) (GX.takeG (v := .int .u64 ((x63 : Nat) : Int)) (rs := []) 7 rfl rfl rfl (dT h62) (by kernel_rfl) (fun _ ⟨_, H9⟩ => Yl.load rfl (Lds.one Try.isAgg30 (((H9.rds (i := 0) rfl).elem eN_len hx64 (by decide)).at_ (k := 0) rfl))) (GX.takeG (v := .slice A0 l0.length c0) (rs := []) 8 rfl rfl rfl (dT h62) (by kernel_rfl) (fun _ _ => Yl.move rfl) (GX.takeG (v := .int .i64 z43) (rs := []) 9 rfl rfl rfl (dT h62) (by kernel_rfl) (fun _ _ => Yl.move rfl) (GX.takeG (v := .int .i64 ((Int.toNat (z43 - 1) : Nat) : Int)) (rs := []) 10 rfl rfl rfl (dT h62) (by kernel_rfl) (fun _ _ => Yl.int (e := IntKind.i64.wrap (z43 - 1)) yk (by rw [IntWalk.i64_in _ (by omega)]; omega)) ?_))))
 obtain ⟨x65, hx66⟩ := at_of (ls := l44) (i := Int.toNat (z43 - 1)) (by first | omega | (simp; done) | (simp; omega))
 refine GX.takeG (v := .pointer (some ⟨ab A0, ao A0 + (Int.toNat (z43 - 1)) * 1, none⟩)) (rs := []) 11 rfl rfl rfl (dT h62) (by kernel_rfl) (fun _ ⟨_, H9⟩ => Yl.indexAddr (El37) rfl rfl ((H9.rds (i := 0) rfl).addr (i := Int.toNat (z43 - 1)) (by omega)) (by omega)) (GX.takeG (v := .int .u64 ((x65 : Nat) : Int)) (rs := []) 12 rfl rfl rfl (dT h62) (by kernel_rfl) (fun _ ⟨_, H9⟩ => Yl.load rfl (Lds.one Try.isAgg30 (((H9.rds (i := 0) rfl).elem eN_len hx66 (by decide)).at_ (k := 0) rfl))) ?_)
 obtain ⟨r72, hr73⟩ : ∃ q, cmp_Less_uint64 x63 x65 = q := ⟨_, rfl⟩
 obtain ⟨D67, HP68, ro69, bk70, rr71⟩ := Own.enter0 H61
 refine GX.doG 13 rfl rfl rfl (dT h62) (by kernel_rfl) (Do.call Try.call78 rfl (cmp_Less_uint64_ok _ _ x63 x65 r72 HP68 hr73) ?_)
 rintro _ w74 ⟨rfl, HQ75⟩
 have H76 := bk70 _ _ HQ75
 refine ⟨.inr ⟨_, H76⟩, ?_⟩
 refine GX.take (v := .bool r72) (rs := []) 14 rfl (by kernel_rfl) (fun _ _ => Yl.pickT rfl (dT h62) rfl) (GX.done (by kernel_rfl) (Fin.then ?_))
 rcases Bool.eq_false_or_eq_true (r72) with h77 | h77
 refine jT h77 (sk (Wp.seq (bo ?_)))
 have H79 := H76.drew
 refine Wp.drawnX [15, 17] (fun W => ∃ L', Own w D W ([row A0 l0.length c0 (List.flatMap (eN .u64) l44) 30 1] ++ L')) (by kernel_rfl) (by kernel_rfl) (NoP.block (NoP.then (NoP.then (NoP.block (NoP.block (NoP.then (NoP.then (NoP.block NoP.base)))))))) ⟨_, H79⟩ ?_
 revert H79
 generalize World.drew w74 = w78
 intro H79
 refine GX.take (v := .slice A0 l0.length c0) (rs := [[], []]) 0 rfl (by kernel_rfl) (fun _ _ => Yl.move rfl) (GX.take (v := .int .i64 ((Int.toNat z43 : Nat) : Int)) (rs := [[], []]) 1 rfl (by kernel_rfl) (fun _ _ => Yl.int (e := z43) (Yl.move rfl) (by omega)) (GX.takeA (v := .slice A0 l0.length c0) 2 rfl (by kernel_rfl) (fun _ => Yl.move rfl) (GX.takeA (v := .int .i64 z43) 3 rfl (by kernel_rfl) (fun _ => Yl.move rfl) (GX.takeA (v := .int .i64 ((Int.toNat (z43 - 1) : Nat) : Int)) 4 rfl (by kernel_rfl) (fun _ => Yl.int (e := IntKind.i64.wrap (z43 - 1)) yk (by rw [IntWalk.i64_in _ (by omega)]; omega)) (GX.take (v := .slice A0 l0.length c0) (rs := [[], []]) 5 rfl (by kernel_rfl) (fun _ _ => Yl.move rfl) (GX.take (v := .int .i64 z43) (rs := [[], []]) 6 rfl (by kernel_rfl) (fun _ _ => Yl.move rfl) (GX.take (v := .int .i64 ((Int.toNat (z43 - 1) : Nat) : Int)) (rs := [[], []]) 7 rfl (by kernel_rfl) (fun _ _ => Yl.int (e := IntKind.i64.wrap (z43 - 1)) yk (by rw [IntWalk.i64_in _ (by omega)]; omega)) (GX.take (v := .pointer (some ⟨ab A0, ao A0 + (Int.toNat (z43 - 1)) * 1, none⟩)) (rs := [[], []]) 8 rfl (by kernel_rfl) (fun _ ⟨_, H9⟩ => Yl.indexAddr (El37) rfl rfl ((H9.rds (i := 0) rfl).addr (i := Int.toNat (z43 - 1)) (by omega)) (by omega)) (GX.take (v := .int .u64 ((x65 : Nat) : Int)) (rs := [[], []]) 9 rfl (by kernel_rfl) (fun _ ⟨_, H9⟩ => Yl.load rfl (Lds.one Try.isAgg30 (((H9.rds (i := 0) rfl).elem eN_len hx66 (by decide)).at_ (k := 0) rfl))) (GX.take (v := .slice A0 l0.length c0) (rs := [[13, 12], []]) 10 rfl (by kernel_rfl) (fun _ _ => Yl.move rfl) (GX.take (v := .int .i64 ((Int.toNat z43 : Nat) : Int)) (rs := [[13, 12], []]) 11 rfl (by kernel_rfl) (fun _ _ => Yl.int (e := z43) (Yl.move rfl) (by omega)) (GX.take (v := .pointer (some ⟨ab A0, ao A0 + (Int.toNat z43) * 1, none⟩)) (rs := [[13], []]) 12 rfl (by kernel_rfl) (fun _ ⟨_, H9⟩ => Yl.indexAddr (El37) rfl rfl ((H9.rds (i := 0) rfl).addr (i := Int.toNat z43) (by omega)) (by omega)) (GX.take (v := .int .u64 ((x63 : Nat) : Int)) (rs := [[], []]) 13 rfl (by kernel_rfl) (fun _ ⟨_, H9⟩ => Yl.load rfl (Lds.one Try.isAgg30 (((H9.rds (i := 0) rfl).elem eN_len hx64 (by decide)).at_ (k := 0) rfl))) (GX.take (v := .pointer (some ⟨ab A0, ao A0 + (Int.toNat z43) * 1, none⟩)) (rs := [[], []]) 14 rfl (by kernel_rfl) (fun _ ⟨_, H9⟩ => Yl.indexAddr (El37) rfl rfl ((H9.rds (i := 0) rfl).addr (i := Int.toNat z43) (by omega)) (by omega)) ?_))))))))))))))
 refine GX.do0 15 rfl (by kernel_rfl) (Do.storeRow (vs := [.int .u64 ((x65 : Nat) : Int)]) (o := (Int.toNat z43) * 1 + 0) (q := ao A0 + (Int.toNat z43) * 1) H79 rfl (by omega) rfl Try.sizeOf30 rfl rfl (Nat.le_of_ble_eq_true rfl) (store_fits eN_len hx64 (Nat.le_of_ble_eq_true rfl)) (flat_set (y := x65) eN_len rfl (Nat.le_of_ble_eq_true rfl) hx64) ?_)
 intro w80 H81
 refine ⟨.inl (by kernel_rfl), ?_⟩
 obtain ⟨x82, hx83⟩ := at_of (ls := l44) (i := Int.toNat (z43 - 1)) (by first | omega | (simp; done) | (simp; omega))
 obtain ⟨x84, hx85⟩ := rds_at (ls := (List.set l44 (Int.toNat z43) x65)) (i := Int.toNat (z43 - 1)) eN_len (by decide) (H81.rds (i := 0) rfl) (by first | omega | (simp; done) | (simp; omega))
 refine GX.takeA (v := .pointer (some ⟨ab A0, ao A0 + (Int.toNat (z43 - 1)) * 1, none⟩)) 16 rfl (by kernel_rfl) (fun _ => Yl.indexAddr (El37) rfl rfl ((H81.rds (i := 0) rfl).addr (i := Int.toNat (z43 - 1)) (by omega)) (by omega)) ?_
 obtain ⟨x86, hx87⟩ := at_of (ls := (List.set l44 (Int.toNat z43) x65)) (i := Int.toNat (z43 - 1)) (by first | omega | (simp; done) | (simp; omega))
 refine GX.do0 17 rfl (by kernel_rfl) (Do.storeRow (vs := [.int .u64 ((x63 : Nat) : Int)]) (o := (Int.toNat (z43 - 1)) * 1 + 0) (q := ao A0 + (Int.toNat (z43 - 1)) * 1) H81 rfl (by omega) rfl Try.sizeOf30 rfl rfl (Nat.le_of_ble_eq_true rfl) (store_fits eN_len hx87 (Nat.le_of_ble_eq_true rfl)) (flat_set (y := x63) eN_len rfl (Nat.le_of_ble_eq_true rfl) hx87) ?_)
 intro w88 H89
 refine ⟨.inl (by kernel_rfl), ?_⟩
 refine GX.done (by kernel_rfl) (bN (Fin.then (Wp.region (Mz rfl (fw (.int .i64 (z43 - 1)) (Yl.int (e := IntKind.i64.wrap (z43 - 1)) yk (by rw [IntWalk.i64_in _ (by omega)])) (Az rfl (WL.nil ?_)))))))
 have H90 := H89.pk [0]
 exact Fin.round (z43 - 1, (List.set (List.set l44 (Int.toNat z43) x65) (Int.toNat (z43 - 1)) x63), f58) ⟨rfl, rfl, rfl, rfl, rfl, trivial⟩ (dm53.2 ⟨H90, by first | omega | (simp only [List.length_set] <;> omega) | (simp only [List.length_replicate]), by omega, by omega, Eq.trans (hq54) (Eq.trans (if_pos h62) (Eq.trans (bnd_of (getD_of hx64)) (Eq.trans (bnd_of (getD_of hx66)) (Eq.trans (bnd_of hr73) (if_pos h77)))))⟩) (by show f58 < f58 + 1; omega)
 refine jF h77 (Wp.exit (Fin.thenX (Fin.thenX (Fin.blockX (bN ?_)))))
 have H91 := H76.pk [0]
 exact Fin.join l44 ⟨rfl, rfl, rfl, rfl, trivial⟩ (dm42.2 ⟨H91, by first | omega | (simp only [List.length_set] <;> omega) | (simp only [List.length_replicate]), bnd_of (Eq.trans (hq54) (Eq.trans (if_pos h62) (Eq.trans (bnd_of (getD_of hx64)) (Eq.trans (bnd_of (getD_of hx66)) (Eq.trans (bnd_of hr73) (ifF h77))))))⟩)
 refine GX.skipG (rs := []) 4 rfl rfl rfl (dF h62) (by kernel_rfl) (GX.skipG (rs := []) 5 rfl rfl rfl (dF h62) (by kernel_rfl) (GX.skipG (rs := []) 6 rfl rfl rfl (dF h62) (by kernel_rfl) (GX.skipG (rs := []) 7 rfl rfl rfl (dF h62) (by kernel_rfl) (GX.skipG (rs := []) 8 rfl rfl rfl (dF h62) (by kernel_rfl) (GX.skipG (rs := []) 9 rfl rfl rfl (dF h62) (by kernel_rfl) (GX.skipG (rs := []) 10 rfl rfl rfl (dF h62) (by kernel_rfl) (GX.skipG (rs := []) 11 rfl rfl rfl (dF h62) (by kernel_rfl) (GX.skipG (rs := []) 12 rfl rfl rfl (dF h62) (by kernel_rfl) (GX.skipG (rs := []) 13 rfl rfl rfl (dF h62) (by kernel_rfl) (GX.take (v := .bool false) (rs := []) 14 rfl (by kernel_rfl) (fun _ _ => Yl.pickF rfl (dF h62) rfl) (GX.done (by kernel_rfl) (Fin.then (jf (Wp.exit (Fin.thenX (Fin.thenX (Fin.blockX (bN ?_))))))))))))))))))
 have H92 := H61.pk [0]
 exact Fin.join l44 ⟨rfl, rfl, rfl, rfl, trivial⟩ (dm42.2 ⟨H92, by first | omega | (simp only [List.length_set] <;> omega) | (simp only [List.length_replicate]), bnd_of (Eq.trans (hq54) (if_neg h62))⟩)
 rintro l39 w93 hf95
 show Wp _ _ _ [(6, .int .i64 z21), (0, .slice A0 l0.length c0), (1, .int .i64 p1), (2, .int .i64 p2)] _ _
 obtain ⟨H94, hi97, hj96⟩ := dm42.1 hf95
 refine Wp.region (Mz rfl (fw (.int .i64 (z21 + 1)) (Yl.int (e := IntKind.i64.wrap (z21 + 1)) yk (by rw [IntWalk.i64_in _ (by omega)])) (Az rfl (WL.nil ?_))))
 have H98 := H94.pk [0]
 exact Fin.round (z21 + 1, l39, f36) ⟨rfl, rfl, rfl, rfl, trivial⟩ (dm31.2 ⟨H98, by first | omega | (simp only [List.length_set] <;> omega) | (simp only [List.length_replicate]), by omega, by omega, Eq.trans (hq32) (Eq.trans (if_pos h38) (bnd_of hj96))⟩) (by show f36 < f36 + 1; omega)
 refine jF (dF h38) (Wp.exit (Fin.thenX ?_))
 have hL99 : slices_insertionSortOrdered_uint64_L0 p1 p2 ((Int.toNat (p2 - (p1 + 1))) + 1) (p1 + 1) l0 = l22 := et (hq32) (iN h38)
 refine Fin.thenX (Fin.blockX (Fin.res0 (res0 rfl) ?_))
 have H100 := H27.pk [0]
 obtain rfl : _ = l22 := hr.symm.trans (bnd_of hL99)
 exact ⟨rfl, H100, (by first | rfl | omega | (simp only [List.length_set] <;> omega))⟩
def slices_siftDownOrdered_uint64_L0 (p2 : Int) (p3 : Int) : Nat → Int → List Nat → (List Nat) ⊕ (List Nat)
  | 0, z21, l22 => Sum.inl default
  | q23 + 1, z21, l22 => if (2 * z21) + 1 ≥ p2 then Sum.inl l22 else if ((2 * z21) + 1) + 1 < p2 then bnd (List.getD l22 (Int.toNat (p3 + ((2 * z21) + 1))) default) fun yx44 => bnd (List.getD l22 (Int.toNat ((p3 + ((2 * z21) + 1)) + 1)) default) fun yx46 => bnd (cmp_Less_uint64 yx44 yx46) fun yr53 => bnd (if yr53 = true then ((2 * z21) + 1) + 1 else (2 * z21) + 1) fun sJrLsftbbbJ => bnd (List.getD l22 (Int.toNat (p3 + z21)) default) fun yx73 => bnd (List.getD l22 (Int.toNat (p3 + sJrLsftbbbJ)) default) fun yx75 => bnd (cmp_Less_uint64 yx73 yx75) fun yr82 => if yr82 = true then slices_siftDownOrdered_uint64_L0 p2 p3 q23 sJrLsftbbbJ (List.set (List.set l22 (Int.toNat (p3 + z21)) yx75) (Int.toNat (p3 + sJrLsftbbbJ)) yx73) else Sum.inr (l22) else bnd (List.getD l22 (Int.toNat (p3 + z21)) default) fun yx104 => bnd (List.getD l22 (Int.toNat (p3 + ((2 * z21) + 1))) default) fun yx106 => bnd (cmp_Less_uint64 yx104 yx106) fun yr113 => if yr113 = true then slices_siftDownOrdered_uint64_L0 p2 p3 q23 ((2 * z21) + 1) (List.set (List.set l22 (Int.toNat (p3 + z21)) yx106) (Int.toNat (p3 + ((2 * z21) + 1))) yx104) else Sum.inr (l22)
def slices_siftDownOrdered_uint64 (l0 : List Nat) (p1 : Int) (p2 : Int) (p3 : Int) : (List Nat) :=
 lp (slices_siftDownOrdered_uint64_L0 p2 p3 ((Int.toNat (p2 - p1)) + 1) p1 l0) fun sLrL => sLrL
set_option maxRecDepth 100000 in
theorem slices_siftDownOrdered_uint64_ok (w : World) (D : Nat → Prop) (A0 : Option Addr) (n0 c0 : Nat) (l0 : List Nat) (p1 : Int) (p2 : Int) (p3 : Int) (r0 : List Nat) (H : Own w D w [row A0 n0 c0 (List.flatMap (eN .u64) l0) 30 1]) (hn0 : n0 = l0.length) (hl0 : l0.length * 8 ≤ 211106232532992) (hh0 : 0 ≤ p1 ∧ 0 ≤ p3 ∧ p1 ≤ p2 ∧ p2 + p3 ≤ ((l0.length : Nat) : Int)) (hr : slices_siftDownOrdered_uint64 l0 p1 p2 p3 = r0) :
    Calls Try.prog 84 #[.slice A0 n0 c0, .int .i64 p1, .int .i64 p2, .int .i64 p3] w (Ret fun v w' => v = .tuple #[] ∧ Own w D w' [row A0 n0 c0 (List.flatMap (eN .u64) r0) 30 1] ∧ (r0.length = l0.length)) := by
 subst hn0
 have hc0 := H.rowC (i := 0) rfl
 refine Calls.body (args := [.slice A0 l0.length c0, .int .i64 p1, .int .i64 p2, .int .i64 p3]) Try.func84 rfl rfl rfl ?_
 show Wp _ _ _ [(0, .slice A0 l0.length c0), (1, .int .i64 p1), (2, .int .i64 p2), (3, .int .i64 p3)] _ _
 refine sr (Mz rfl (An rfl (bo ?_)))
 have H25 : Own w D w [row A0 l0.length c0 (List.flatMap (eN .u64) l0) 30 1] := H.pk [0]
 obtain ⟨I29, hI30⟩ : ∃ q : (Int × (List Nat) × Nat) → World → Prop, q = fun (i : Int × (List Nat) × Nat) w' => Own w D w' [row A0 l0.length c0 (List.flatMap (eN .u64) i.2.1) 30 1] ∧ (i.2.1.length = l0.length ∧ (0 ≤ i.1 ∧ i.1 ≤ p2) ∧ Int.toNat (p2 - i.1) < i.2.2 ∧ slices_siftDownOrdered_uint64_L0 p2 p3 ((Int.toNat (p2 - p1)) + 1) p1 l0 = slices_siftDownOrdered_uint64_L0 p2 p3 i.2.2 i.1 i.2.1) := ⟨_, rfl⟩
 have dm31 : ∀ {z21 : Int} {l22 : List Nat} {f24 : Nat} {w' : World}, I29 (z21, l22, f24) w' ↔ Own w D w' [row A0 l0.length c0 (List.flatMap (eN .u64) l22) 30 1] ∧ l22.length = l0.length ∧ (0 ≤ z21 ∧ z21 ≤ p2) ∧ Int.toNat (p2 - z21) < f24 ∧ slices_siftDownOrdered_uint64_L0 p2 p3 ((Int.toNat (p2 - p1)) + 1) p1 l0 = slices_siftDownOrdered_uint64_L0 p2 p3 f24 z21 l22 := by intros; subst hI30; exact Iff.rfl
 refine Wp.loop (fun i : Int × (List Nat) × Nat => [(8, .int .i64 i.1), (0, .slice A0 l0.length c0), (2, .int .i64 p2), (3, .int .i64 p3)]) I29 (fun i => i.2.2) (p1, l0, (Int.toNat (p2 - p1)) + 1) ⟨rfl, rfl, rfl, rfl, trivial⟩ (dm31.2 ⟨H25, by first | omega | (simp only [List.length_set] <;> omega) | (simp only [List.length_replicate]), by omega, by omega, rfl⟩) ?_
 rintro ⟨z21, l22, f24⟩ w26 hf28
 show Wp _ _ _ [(8, .int .i64 z21), (0, .slice A0 l0.length c0), (2, .int .i64 p2), (3, .int .i64 p3)] _ _
 obtain ⟨H27, hi33, hi34, hi35, hq32⟩ := dm31.1 hf28
 obtain ⟨f36, hf37⟩ : ∃ q, f24 = q + 1 := ⟨f24 - 1, by omega⟩
 subst hf37
 refine bo (sr (Mz rfl (fw (.int .i64 (2 * z21)) (Yl.int (e := IntKind.i64.wrap (2 * z21)) yk (by rw [IntWalk.i64_in _ (by omega)])) (fw (.int .i64 ((2 * z21) + 1)) (Yl.int (e := IntKind.i64.wrap ((2 * z21) + 1)) yk (by rw [IntWalk.i64_in _ (by omega)])) (An rfl (Wp.seq (sr (Mz rfl (Mz rfl (Kz (.bool (decide ((2 * z21) + 1 ≥ p2))) (nt ?_)))))))))))
 by_cases h38 : (2 * z21) + 1 ≥ p2
 refine jT (dT h38) (Wp.exit (Fin.thenX (Fin.blockO rfl ?_)))
 have hL39 : slices_siftDownOrdered_uint64_L0 p2 p3 ((Int.toNat (p2 - p1)) + 1) p1 l0 = Sum.inl l22 := et (hq32) (ip h38)
 refine Fin.thenX (Fin.blockX (Fin.res0 (res0 rfl) ?_))
 have H40 := H27.pk [0]
 obtain rfl : _ = l22 := hr.symm.trans (lp_l hL39)
 exact ⟨rfl, H40, (by first | rfl | omega | (simp only [List.length_set] <;> omega))⟩
 refine jF (dF h38) (sk (Wp.seq (Wp.seq ?_)))
 have H42 := H27.drew
 refine Wp.drawnX [] (fun W => ∃ L', Own w D W ([row A0 l0.length c0 (List.flatMap (eN .u64) l22) 30 1] ++ L')) (by kernel_rfl) (by kernel_rfl) (NoP.then (NoP.then (NoP.block (NoP.then (NoP.block NoP.base))))) ⟨_, H42⟩ ?_
 revert H42
 generalize World.drew w26 = w41
 intro H42
 refine GX.take (v := .int .i64 ((2 * z21) + 1)) (rs := []) 0 rfl (by kernel_rfl) (fun _ _ => Yl.move rfl) (GX.take (v := .int .i64 (((2 * z21) + 1) + 1)) (rs := []) 1 rfl (by kernel_rfl) (fun _ _ => Yl.int (e := IntKind.i64.wrap (((2 * z21) + 1) + 1)) yk (by rw [IntWalk.i64_in _ (by omega)])) (GX.take (v := .int .i64 p2) (rs := []) 2 rfl (by kernel_rfl) (fun _ _ => Yl.move rfl) (GX.take (v := .bool (decide (((2 * z21) + 1) + 1 < p2))) (rs := []) 3 rfl (by kernel_rfl) (fun _ _ => yk) (GX.take (v := .bool (decide (((2 * z21) + 1) + 1 < p2))) (rs := []) 4 rfl (by kernel_rfl) (fun _ _ => Yl.move rfl) ?_))))
 by_cases h43 : ((2 * z21) + 1) + 1 < p2
 refine GX.takeG (v := .slice A0 l0.length c0) (rs := []) 5 rfl rfl rfl (dT h43) (by kernel_rfl) (fun _ _ => Yl.move rfl) (GX.takeG (v := .int .i64 p3) (rs := []) 6 rfl rfl rfl (dT h43) (by kernel_rfl) (fun _ _ => Yl.move rfl) (GX.takeG (v := .int .i64 ((2 * z21) + 1)) (rs := []) 7 rfl rfl rfl (dT h43) (by kernel_rfl) (fun _ _ => Yl.move rfl) (GX.takeG (v := .int .i64 ((Int.toNat (p3 + ((2 * z21) + 1)) : Nat) : Int)) (rs := []) 8 rfl rfl rfl (dT h43) (by kernel_rfl) (fun _ _ => Yl.int (e := IntKind.i64.wrap (p3 + ((2 * z21) + 1))) yk (by rw [IntWalk.i64_in _ (by omega)]; omega)) ?_)))
 obtain ⟨x44, hx45⟩ := at_of (ls := l22) (i := Int.toNat (p3 + ((2 * z21) + 1))) (by first | omega | (simp; done) | (simp; omega))
 refine GX.takeG (v := .pointer (some ⟨ab A0, ao A0 + (Int.toNat (p3 + ((2 * z21) + 1))) * 1, none⟩)) (rs := []) 9 rfl rfl rfl (dT h43) (by kernel_rfl) (fun _ ⟨_, H9⟩ => Yl.indexAddr (El37) rfl rfl ((H9.rds (i := 0) rfl).addr (i := Int.toNat (p3 + ((2 * z21) + 1))) (by omega)) (by omega)) (GX.takeG (v := .int .u64 ((x44 : Nat) : Int)) (rs := []) 10 rfl rfl rfl (dT h43) (by kernel_rfl) (fun _ ⟨_, H9⟩ => Yl.load rfl (Lds.one Try.isAgg30 (((H9.rds (i := 0) rfl).elem eN_len hx45 (by decide)).at_ (k := 0) rfl))) (GX.takeG (v := .slice A0 l0.length c0) (rs := []) 11 rfl rfl rfl (dT h43) (by kernel_rfl) (fun _ _ => Yl.move rfl) (GX.takeG (v := .int .i64 p3) (rs := []) 12 rfl rfl rfl (dT h43) (by kernel_rfl) (fun _ _ => Yl.move rfl) (GX.takeG (v := .int .i64 ((2 * z21) + 1)) (rs := []) 13 rfl rfl rfl (dT h43) (by kernel_rfl) (fun _ _ => Yl.move rfl) (GX.takeG (v := .int .i64 (p3 + ((2 * z21) + 1))) (rs := []) 14 rfl rfl rfl (dT h43) (by kernel_rfl) (fun _ _ => Yl.int (e := IntKind.i64.wrap (p3 + ((2 * z21) + 1))) yk (by rw [IntWalk.i64_in _ (by omega)])) (GX.takeG (v := .int .i64 ((Int.toNat ((p3 + ((2 * z21) + 1)) + 1) : Nat) : Int)) (rs := []) 15 rfl rfl rfl (dT h43) (by kernel_rfl) (fun _ _ => Yl.int (e := IntKind.i64.wrap ((p3 + ((2 * z21) + 1)) + 1)) yk (by rw [IntWalk.i64_in _ (by omega)]; omega)) ?_))))))
 obtain ⟨x46, hx47⟩ := at_of (ls := l22) (i := Int.toNat ((p3 + ((2 * z21) + 1)) + 1)) (by first | omega | (simp; done) | (simp; omega))
 refine GX.takeG (v := .pointer (some ⟨ab A0, ao A0 + (Int.toNat ((p3 + ((2 * z21) + 1)) + 1)) * 1, none⟩)) (rs := []) 16 rfl rfl rfl (dT h43) (by kernel_rfl) (fun _ ⟨_, H9⟩ => Yl.indexAddr (El37) rfl rfl ((H9.rds (i := 0) rfl).addr (i := Int.toNat ((p3 + ((2 * z21) + 1)) + 1)) (by omega)) (by omega)) (GX.takeG (v := .int .u64 ((x46 : Nat) : Int)) (rs := []) 17 rfl rfl rfl (dT h43) (by kernel_rfl) (fun _ ⟨_, H9⟩ => Yl.load rfl (Lds.one Try.isAgg30 (((H9.rds (i := 0) rfl).elem eN_len hx47 (by decide)).at_ (k := 0) rfl))) ?_)
 obtain ⟨r53, hr54⟩ : ∃ q, cmp_Less_uint64 x44 x46 = q := ⟨_, rfl⟩
 obtain ⟨D48, HP49, ro50, bk51, rr52⟩ := Own.enter0 H42
 refine GX.doG 18 rfl rfl rfl (dT h43) (by kernel_rfl) (Do.call Try.call78 rfl (cmp_Less_uint64_ok _ _ x44 x46 r53 HP49 hr54) ?_)
 rintro _ w55 ⟨rfl, HQ56⟩
 have H57 := bk51 _ _ HQ56
 refine ⟨.inr ⟨_, H57⟩, ?_⟩
 refine GX.take (v := .bool r53) (rs := []) 19 rfl (by kernel_rfl) (fun _ _ => Yl.pickT rfl (dT h43) rfl) (GX.done (by kernel_rfl) (Fin.then ?_))
 obtain ⟨I59, hI60⟩ : ∃ q : Int → World → Prop, q = fun (i : Int) w' => Own w D w' [row A0 l0.length c0 (List.flatMap (eN .u64) l22) 30 1] ∧ ((-9223372036854775808 ≤ i ∧ i ≤ 9223372036854775807) ∧ (2 * z21 + 1 ≤ i ∧ i < p2) ∧ (if r53 = true then ((2 * z21) + 1) + 1 else (2 * z21) + 1) = i) := ⟨_, rfl⟩
 have dm61 : ∀ {z58 : Int} {w' : World}, I59 z58 w' ↔ Own w D w' [row A0 l0.length c0 (List.flatMap (eN .u64) l22) 30 1] ∧ (-9223372036854775808 ≤ z58 ∧ z58 ≤ 9223372036854775807) ∧ (2 * z21 + 1 ≤ z58 ∧ z58 < p2) ∧ (if r53 = true then ((2 * z21) + 1) + 1 else (2 * z21) + 1) = z58 := by intros; subst hI60; exact Iff.rfl
 refine Wp.joinT (fun i : Int => [(9, .int .i64 i), (8, .int .i64 z21), (0, .slice A0 l0.length c0), (2, .int .i64 p2), (3, .int .i64 p3)]) I59 ?_ ?_
 rcases Bool.eq_false_or_eq_true (r53) with h62 | h62
 refine jT h62 (Wp.region (Mz rfl (fw (.int .i64 (((2 * z21) + 1) + 1)) (Yl.int (e := IntKind.i64.wrap (((2 * z21) + 1) + 1)) yk (by rw [IntWalk.i64_in _ (by omega)])) (Az rfl (WL.nil ?_)))))
 have H63 := H57.pk [0]
 exact Fin.join (((2 * z21) + 1) + 1) ⟨rfl, rfl, rfl, rfl, rfl, trivial⟩ (dm61.2 ⟨H63, by omega, by omega, ip h62⟩)
 refine jF h62 (Wp.skip ?_)
 have H64 := H57.pk [0]
 exact Fin.join ((2 * z21) + 1) ⟨rfl, rfl, rfl, rfl, rfl, trivial⟩ (dm61.2 ⟨H64, by omega, by omega, ifF h62⟩)
 rintro z58 w65 hf67
 show Wp _ _ _ [(9, .int .i64 z58), (8, .int .i64 z21), (0, .slice A0 l0.length c0), (2, .int .i64 p2), (3, .int .i64 p3)] _ _
 obtain ⟨H66, hi69, hi70, hj68⟩ := dm61.1 hf67
 refine Wp.seq (Wp.seq ?_)
 have H72 := H66.drew
 refine Wp.drawnX [] (fun W => ∃ L', Own w D W ([row A0 l0.length c0 (List.flatMap (eN .u64) l22) 30 1] ++ L')) (by kernel_rfl) (by kernel_rfl) (NoP.then (NoP.then (NoP.block (NoP.then (NoP.block NoP.base))))) ⟨_, H72⟩ ?_
 revert H72
 generalize World.drew w65 = w71
 intro H72
 refine GX.take (v := .slice A0 l0.length c0) (rs := []) 0 rfl (by kernel_rfl) (fun _ _ => Yl.move rfl) (GX.take (v := .int .i64 p3) (rs := []) 1 rfl (by kernel_rfl) (fun _ _ => Yl.move rfl) (GX.take (v := .int .i64 z21) (rs := []) 2 rfl (by kernel_rfl) (fun _ _ => Yl.move rfl) (GX.take (v := .int .i64 ((Int.toNat (p3 + z21) : Nat) : Int)) (rs := []) 3 rfl (by kernel_rfl) (fun _ _ => Yl.int (e := IntKind.i64.wrap (p3 + z21)) yk (by rw [IntWalk.i64_in _ (by omega)]; omega)) ?_)))
 obtain ⟨x73, hx74⟩ := at_of (ls := l22) (i := Int.toNat (p3 + z21)) (by first | omega | (simp; done) | (simp; omega))
 refine GX.take (v := .pointer (some ⟨ab A0, ao A0 + (Int.toNat (p3 + z21)) * 1, none⟩)) (rs := []) 4 rfl (by kernel_rfl) (fun _ ⟨_, H9⟩ => Yl.indexAddr (El37) rfl rfl ((H9.rds (i := 0) rfl).addr (i := Int.toNat (p3 + z21)) (by omega)) (by omega)) (GX.take (v := .int .u64 ((x73 : Nat) : Int)) (rs := []) 5 rfl (by kernel_rfl) (fun _ ⟨_, H9⟩ => Yl.load rfl (Lds.one Try.isAgg30 (((H9.rds (i := 0) rfl).elem eN_len hx74 (by decide)).at_ (k := 0) rfl))) (GX.take (v := .slice A0 l0.length c0) (rs := []) 6 rfl (by kernel_rfl) (fun _ _ => Yl.move rfl) (GX.take (v := .int .i64 p3) (rs := []) 7 rfl (by kernel_rfl) (fun _ _ => Yl.move rfl) (GX.take (v := .int .i64 z58) (rs := []) 8 rfl (by kernel_rfl) (fun _ _ => Yl.move rfl) (GX.take (v := .int .i64 ((Int.toNat (p3 + z58) : Nat) : Int)) (rs := []) 9 rfl (by kernel_rfl) (fun _ _ => Yl.int (e := IntKind.i64.wrap (p3 + z58)) yk (by rw [IntWalk.i64_in _ (by omega)]; omega)) ?_)))))
 obtain ⟨x75, hx76⟩ := at_of (ls := l22) (i := Int.toNat (p3 + z58)) (by first | omega | (simp; done) | (simp; omega))
 refine GX.take (v := .pointer (some ⟨ab A0, ao A0 + (Int.toNat (p3 + z58)) * 1, none⟩)) (rs := []) 10 rfl (by kernel_rfl) (fun _ ⟨_, H9⟩ => Yl.indexAddr (El37) rfl rfl ((H9.rds (i := 0) rfl).addr (i := Int.toNat (p3 + z58)) (by omega)) (by omega)) (GX.take (v := .int .u64 ((x75 : Nat) : Int)) (rs := []) 11 rfl (by kernel_rfl) (fun _ ⟨_, H9⟩ => Yl.load rfl (Lds.one Try.isAgg30 (((H9.rds (i := 0) rfl).elem eN_len hx76 (by decide)).at_ (k := 0) rfl))) ?_)
 obtain ⟨r82, hr83⟩ : ∃ q, cmp_Less_uint64 x73 x75 = q := ⟨_, rfl⟩
 obtain ⟨D77, HP78, ro79, bk80, rr81⟩ := Own.enter0 H72
 refine GX.do 12 rfl (by kernel_rfl) (Do.call Try.call78 rfl (cmp_Less_uint64_ok _ _ x73 x75 r82 HP78 hr83) ?_)
 rintro _ w84 ⟨rfl, HQ85⟩
 have H86 := bk80 _ _ HQ85
 refine ⟨.inr ⟨_, H86⟩, ?_⟩
 refine GX.take (v := .bool (!r82)) (rs := []) 13 rfl (by kernel_rfl) (fun _ _ => yk) (GX.done (by kernel_rfl) (Fin.then ?_))
 rcases Bool.eq_false_or_eq_true (r82) with h87 | h87
 refine jF (cn h87) (sk (Wp.seq ?_))
 have H89 := H86.drew
 refine Wp.drawnX [21, 23] (fun W => ∃ L', Own w D W ([row A0 l0.length c0 (List.flatMap (eN .u64) l22) 30 1] ++ L')) (by kernel_rfl) (by kernel_rfl) (NoP.then (NoP.block (NoP.then (NoP.block NoP.base)))) ⟨_, H89⟩ ?_
 revert H89
 generalize World.drew w84 = w88
 intro H89
 refine GX.take (v := .slice A0 l0.length c0) (rs := [[], []]) 0 rfl (by kernel_rfl) (fun _ _ => Yl.move rfl) (GX.take (v := .int .i64 p3) (rs := [[], []]) 1 rfl (by kernel_rfl) (fun _ _ => Yl.move rfl) (GX.take (v := .int .i64 z21) (rs := [[], []]) 2 rfl (by kernel_rfl) (fun _ _ => Yl.move rfl) (GX.take (v := .int .i64 ((Int.toNat (p3 + z21) : Nat) : Int)) (rs := [[], []]) 3 rfl (by kernel_rfl) (fun _ _ => Yl.int (e := IntKind.i64.wrap (p3 + z21)) yk (by rw [IntWalk.i64_in _ (by omega)]; omega)) (GX.takeA (v := .slice A0 l0.length c0) 4 rfl (by kernel_rfl) (fun _ => Yl.move rfl) (GX.takeA (v := .int .i64 p3) 5 rfl (by kernel_rfl) (fun _ => Yl.move rfl) (GX.takeA (v := .int .i64 z58) 6 rfl (by kernel_rfl) (fun _ => Yl.move rfl) (GX.takeA (v := .int .i64 ((Int.toNat (p3 + z58) : Nat) : Int)) 7 rfl (by kernel_rfl) (fun _ => Yl.int (e := IntKind.i64.wrap (p3 + z58)) yk (by rw [IntWalk.i64_in _ (by omega)]; omega)) (GX.take (v := .slice A0 l0.length c0) (rs := [[], []]) 8 rfl (by kernel_rfl) (fun _ _ => Yl.move rfl) (GX.take (v := .int .i64 p3) (rs := [[], []]) 9 rfl (by kernel_rfl) (fun _ _ => Yl.move rfl) (GX.take (v := .int .i64 z58) (rs := [[], []]) 10 rfl (by kernel_rfl) (fun _ _ => Yl.move rfl) (GX.take (v := .int .i64 ((Int.toNat (p3 + z58) : Nat) : Int)) (rs := [[], []]) 11 rfl (by kernel_rfl) (fun _ _ => Yl.int (e := IntKind.i64.wrap (p3 + z58)) yk (by rw [IntWalk.i64_in _ (by omega)]; omega)) (GX.take (v := .pointer (some ⟨ab A0, ao A0 + (Int.toNat (p3 + z58)) * 1, none⟩)) (rs := [[], []]) 12 rfl (by kernel_rfl) (fun _ ⟨_, H9⟩ => Yl.indexAddr (El37) rfl rfl ((H9.rds (i := 0) rfl).addr (i := Int.toNat (p3 + z58)) (by omega)) (by omega)) (GX.take (v := .int .u64 ((x75 : Nat) : Int)) (rs := [[], []]) 13 rfl (by kernel_rfl) (fun _ ⟨_, H9⟩ => Yl.load rfl (Lds.one Try.isAgg30 (((H9.rds (i := 0) rfl).elem eN_len hx76 (by decide)).at_ (k := 0) rfl))) (GX.take (v := .slice A0 l0.length c0) (rs := [[19, 18], []]) 14 rfl (by kernel_rfl) (fun _ _ => Yl.move rfl) (GX.take (v := .int .i64 p3) (rs := [[19, 18, 17], []]) 15 rfl (by kernel_rfl) (fun _ _ => Yl.move rfl) (GX.take (v := .int .i64 z21) (rs := [[19, 18, 17], []]) 16 rfl (by kernel_rfl) (fun _ _ => Yl.move rfl) (GX.take (v := .int .i64 ((Int.toNat (p3 + z21) : Nat) : Int)) (rs := [[19, 18], []]) 17 rfl (by kernel_rfl) (fun _ _ => Yl.int (e := IntKind.i64.wrap (p3 + z21)) yk (by rw [IntWalk.i64_in _ (by omega)]; omega)) (GX.take (v := .pointer (some ⟨ab A0, ao A0 + (Int.toNat (p3 + z21)) * 1, none⟩)) (rs := [[19], []]) 18 rfl (by kernel_rfl) (fun _ ⟨_, H9⟩ => Yl.indexAddr (El37) rfl rfl ((H9.rds (i := 0) rfl).addr (i := Int.toNat (p3 + z21)) (by omega)) (by omega)) (GX.take (v := .int .u64 ((x73 : Nat) : Int)) (rs := [[], []]) 19 rfl (by kernel_rfl) (fun _ ⟨_, H9⟩ => Yl.load rfl (Lds.one Try.isAgg30 (((H9.rds (i := 0) rfl).elem eN_len hx74 (by decide)).at_ (k := 0) rfl))) (GX.take (v := .pointer (some ⟨ab A0, ao A0 + (Int.toNat (p3 + z21)) * 1, none⟩)) (rs := [[], []]) 20 rfl (by kernel_rfl) (fun _ ⟨_, H9⟩ => Yl.indexAddr (El37) rfl rfl ((H9.rds (i := 0) rfl).addr (i := Int.toNat (p3 + z21)) (by omega)) (by omega)) ?_))))))))))))))))))))
 refine GX.do0 21 rfl (by kernel_rfl) (Do.storeRow (vs := [.int .u64 ((x75 : Nat) : Int)]) (o := (Int.toNat (p3 + z21)) * 1 + 0) (q := ao A0 + (Int.toNat (p3 + z21)) * 1) H89 rfl (by omega) rfl Try.sizeOf30 rfl rfl (Nat.le_of_ble_eq_true rfl) (store_fits eN_len hx74 (Nat.le_of_ble_eq_true rfl)) (flat_set (y := x75) eN_len rfl (Nat.le_of_ble_eq_true rfl) hx74) ?_)
 intro w90 H91
 refine ⟨.inl (by kernel_rfl), ?_⟩
 obtain ⟨x92, hx93⟩ := at_of (ls := l22) (i := Int.toNat (p3 + z58)) (by first | omega | (simp; done) | (simp; omega))
 obtain ⟨x94, hx95⟩ := rds_at (ls := (List.set l22 (Int.toNat (p3 + z21)) x75)) (i := Int.toNat (p3 + z58)) eN_len (by decide) (H91.rds (i := 0) rfl) (by first | omega | (simp; done) | (simp; omega))
 refine GX.takeA (v := .pointer (some ⟨ab A0, ao A0 + (Int.toNat (p3 + z58)) * 1, none⟩)) 22 rfl (by kernel_rfl) (fun _ => Yl.indexAddr (El37) rfl rfl ((H91.rds (i := 0) rfl).addr (i := Int.toNat (p3 + z58)) (by omega)) (by omega)) ?_
 obtain ⟨x96, hx97⟩ := at_of (ls := (List.set l22 (Int.toNat (p3 + z21)) x75)) (i := Int.toNat (p3 + z58)) (by first | omega | (simp; done) | (simp; omega))
 refine GX.do0 23 rfl (by kernel_rfl) (Do.storeRow (vs := [.int .u64 ((x73 : Nat) : Int)]) (o := (Int.toNat (p3 + z58)) * 1 + 0) (q := ao A0 + (Int.toNat (p3 + z58)) * 1) H91 rfl (by omega) rfl Try.sizeOf30 rfl rfl (Nat.le_of_ble_eq_true rfl) (store_fits eN_len hx97 (Nat.le_of_ble_eq_true rfl)) (flat_set (y := x73) eN_len rfl (Nat.le_of_ble_eq_true rfl) hx97) ?_)
 intro w98 H99
 refine ⟨.inl (by kernel_rfl), ?_⟩
 refine GX.done (by kernel_rfl) (Fin.then (Wp.region (Mz rfl (Az rfl (WL.nil (bN ?_))))))
 have H100 := H99.pk [0]
 exact Fin.round (z58, (List.set (List.set l22 (Int.toNat (p3 + z21)) x75) (Int.toNat (p3 + z58)) x73), f36) ⟨rfl, rfl, rfl, rfl, trivial⟩ (dm31.2 ⟨H100, by first | omega | (simp only [List.length_set] <;> omega) | (simp only [List.length_replicate]), by omega, by omega, Eq.trans (hq32) (Eq.trans (if_neg h38) (Eq.trans (if_pos h43) (Eq.trans (bnd_of (getD_of hx45)) (Eq.trans (bnd_of (getD_of hx47)) (Eq.trans (bnd_of hr54) (Eq.trans (bnd_of hj68) (Eq.trans (bnd_of (getD_of hx74)) (Eq.trans (bnd_of (getD_of hx76)) (Eq.trans (bnd_of hr83) (if_pos h87))))))))))⟩) (by show f36 < f36 + 1; omega)
 refine jT (cn h87) (rt (tR (bR (tR (bR (Fin.res (res0 rfl) ?_))))))
 have H101 := H86.pk [0]
 obtain rfl : _ = l22 := hr.symm.trans (lp_r (et (hq32) (et (iN h38) (et (ip h43) (et (bnd_of (getD_of hx45)) (et (bnd_of (getD_of hx47)) (et (bnd_of hr54) (et (bnd_of hj68) (et (bnd_of (getD_of hx74)) (et (bnd_of (getD_of hx76)) (et (bnd_of hr83) (ifF h87))))))))))))
 exact ⟨rfl, H101, (by first | rfl | omega | (simp only [List.length_set] <;> omega))⟩
 refine GX.skipG (rs := []) 5 rfl rfl rfl (dF h43) (by kernel_rfl) (GX.skipG (rs := []) 6 rfl rfl rfl (dF h43) (by kernel_rfl) (GX.skipG (rs := []) 7 rfl rfl rfl (dF h43) (by kernel_rfl) (GX.skipG (rs := []) 8 rfl rfl rfl (dF h43) (by kernel_rfl) (GX.skipG (rs := []) 9 rfl rfl rfl (dF h43) (by kernel_rfl) (GX.skipG (rs := []) 10 rfl rfl rfl (dF h43) (by kernel_rfl) (GX.skipG (rs := []) 11 rfl rfl rfl (dF h43) (by kernel_rfl) (GX.skipG (rs := []) 12 rfl rfl rfl (dF h43) (by kernel_rfl) (GX.skipG (rs := []) 13 rfl rfl rfl (dF h43) (by kernel_rfl) (GX.skipG (rs := []) 14 rfl rfl rfl (dF h43) (by kernel_rfl) (GX.skipG (rs := []) 15 rfl rfl rfl (dF h43) (by kernel_rfl) (GX.skipG (rs := []) 16 rfl rfl rfl (dF h43) (by kernel_rfl) (GX.skipG (rs := []) 17 rfl rfl rfl (dF h43) (by kernel_rfl) (GX.skipG (rs := []) 18 rfl rfl rfl (dF h43) (by kernel_rfl) (GX.take (v := .bool false) (rs := []) 19 rfl (by kernel_rfl) (fun _ _ => Yl.pickF rfl (dF h43) rfl) (GX.done (by kernel_rfl) (Fin.then (jf (sk (Wp.seq (Wp.seq ?_))))))))))))))))))))
 have H103 := H42.drew
 refine Wp.drawnX [] (fun W => ∃ L', Own w D W ([row A0 l0.length c0 (List.flatMap (eN .u64) l22) 30 1] ++ L')) (by kernel_rfl) (by kernel_rfl) (NoP.then (NoP.then (NoP.block (NoP.then (NoP.block NoP.base))))) ⟨_, H103⟩ ?_
 revert H103
 generalize World.drew w41 = w102
 intro H103
 refine GX.take (v := .slice A0 l0.length c0) (rs := []) 0 rfl (by kernel_rfl) (fun _ _ => Yl.move rfl) (GX.take (v := .int .i64 p3) (rs := []) 1 rfl (by kernel_rfl) (fun _ _ => Yl.move rfl) (GX.take (v := .int .i64 z21) (rs := []) 2 rfl (by kernel_rfl) (fun _ _ => Yl.move rfl) (GX.take (v := .int .i64 ((Int.toNat (p3 + z21) : Nat) : Int)) (rs := []) 3 rfl (by kernel_rfl) (fun _ _ => Yl.int (e := IntKind.i64.wrap (p3 + z21)) yk (by rw [IntWalk.i64_in _ (by omega)]; omega)) ?_)))
 obtain ⟨x104, hx105⟩ := at_of (ls := l22) (i := Int.toNat (p3 + z21)) (by first | omega | (simp; done) | (simp; omega))
 refine GX.take (v := .pointer (some ⟨ab A0, ao A0 + (Int.toNat (p3 + z21)) * 1, none⟩)) (rs := []) 4 rfl (by kernel_rfl) (fun _ ⟨_, H9⟩ => Yl.indexAddr (El37) rfl rfl ((H9.rds (i := 0) rfl).addr (i := Int.toNat (p3 + z21)) (by omega)) (by omega)) (GX.take (v := .int .u64 ((x104 : Nat) : Int)) (rs := []) 5 rfl (by kernel_rfl) (fun _ ⟨_, H9⟩ => Yl.load rfl (Lds.one Try.isAgg30 (((H9.rds (i := 0) rfl).elem eN_len hx105 (by decide)).at_ (k := 0) rfl))) (GX.take (v := .slice A0 l0.length c0) (rs := []) 6 rfl (by kernel_rfl) (fun _ _ => Yl.move rfl) (GX.take (v := .int .i64 p3) (rs := []) 7 rfl (by kernel_rfl) (fun _ _ => Yl.move rfl) (GX.take (v := .int .i64 ((2 * z21) + 1)) (rs := []) 8 rfl (by kernel_rfl) (fun _ _ => Yl.move rfl) (GX.take (v := .int .i64 ((Int.toNat (p3 + ((2 * z21) + 1)) : Nat) : Int)) (rs := []) 9 rfl (by kernel_rfl) (fun _ _ => Yl.int (e := IntKind.i64.wrap (p3 + ((2 * z21) + 1))) yk (by rw [IntWalk.i64_in _ (by omega)]; omega)) ?_)))))
 obtain ⟨x106, hx107⟩ := at_of (ls := l22) (i := Int.toNat (p3 + ((2 * z21) + 1))) (by first | omega | (simp; done) | (simp; omega))
 refine GX.take (v := .pointer (some ⟨ab A0, ao A0 + (Int.toNat (p3 + ((2 * z21) + 1))) * 1, none⟩)) (rs := []) 10 rfl (by kernel_rfl) (fun _ ⟨_, H9⟩ => Yl.indexAddr (El37) rfl rfl ((H9.rds (i := 0) rfl).addr (i := Int.toNat (p3 + ((2 * z21) + 1))) (by omega)) (by omega)) (GX.take (v := .int .u64 ((x106 : Nat) : Int)) (rs := []) 11 rfl (by kernel_rfl) (fun _ ⟨_, H9⟩ => Yl.load rfl (Lds.one Try.isAgg30 (((H9.rds (i := 0) rfl).elem eN_len hx107 (by decide)).at_ (k := 0) rfl))) ?_)
 obtain ⟨r113, hr114⟩ : ∃ q, cmp_Less_uint64 x104 x106 = q := ⟨_, rfl⟩
 obtain ⟨D108, HP109, ro110, bk111, rr112⟩ := Own.enter0 H103
 refine GX.do 12 rfl (by kernel_rfl) (Do.call Try.call78 rfl (cmp_Less_uint64_ok _ _ x104 x106 r113 HP109 hr114) ?_)
 rintro _ w115 ⟨rfl, HQ116⟩
 have H117 := bk111 _ _ HQ116
 refine ⟨.inr ⟨_, H117⟩, ?_⟩
 refine GX.take (v := .bool (!r113)) (rs := []) 13 rfl (by kernel_rfl) (fun _ _ => yk) (GX.done (by kernel_rfl) (Fin.then ?_))
 rcases Bool.eq_false_or_eq_true (r113) with h118 | h118
 refine jF (cn h118) (sk (Wp.seq ?_))
 have H120 := H117.drew
 refine Wp.drawnX [21, 23] (fun W => ∃ L', Own w D W ([row A0 l0.length c0 (List.flatMap (eN .u64) l22) 30 1] ++ L')) (by kernel_rfl) (by kernel_rfl) (NoP.then (NoP.block (NoP.then (NoP.block NoP.base)))) ⟨_, H120⟩ ?_
 revert H120
 generalize World.drew w115 = w119
 intro H120
 refine GX.take (v := .slice A0 l0.length c0) (rs := [[], []]) 0 rfl (by kernel_rfl) (fun _ _ => Yl.move rfl) (GX.take (v := .int .i64 p3) (rs := [[], []]) 1 rfl (by kernel_rfl) (fun _ _ => Yl.move rfl) (GX.take (v := .int .i64 z21) (rs := [[], []]) 2 rfl (by kernel_rfl) (fun _ _ => Yl.move rfl) (GX.take (v := .int .i64 ((Int.toNat (p3 + z21) : Nat) : Int)) (rs := [[], []]) 3 rfl (by kernel_rfl) (fun _ _ => Yl.int (e := IntKind.i64.wrap (p3 + z21)) yk (by rw [IntWalk.i64_in _ (by omega)]; omega)) (GX.takeA (v := .slice A0 l0.length c0) 4 rfl (by kernel_rfl) (fun _ => Yl.move rfl) (GX.takeA (v := .int .i64 p3) 5 rfl (by kernel_rfl) (fun _ => Yl.move rfl) (GX.takeA (v := .int .i64 ((2 * z21) + 1)) 6 rfl (by kernel_rfl) (fun _ => Yl.move rfl) (GX.takeA (v := .int .i64 ((Int.toNat (p3 + ((2 * z21) + 1)) : Nat) : Int)) 7 rfl (by kernel_rfl) (fun _ => Yl.int (e := IntKind.i64.wrap (p3 + ((2 * z21) + 1))) yk (by rw [IntWalk.i64_in _ (by omega)]; omega)) (GX.take (v := .slice A0 l0.length c0) (rs := [[], []]) 8 rfl (by kernel_rfl) (fun _ _ => Yl.move rfl) (GX.take (v := .int .i64 p3) (rs := [[], []]) 9 rfl (by kernel_rfl) (fun _ _ => Yl.move rfl) (GX.take (v := .int .i64 ((2 * z21) + 1)) (rs := [[], []]) 10 rfl (by kernel_rfl) (fun _ _ => Yl.move rfl) (GX.take (v := .int .i64 ((Int.toNat (p3 + ((2 * z21) + 1)) : Nat) : Int)) (rs := [[], []]) 11 rfl (by kernel_rfl) (fun _ _ => Yl.int (e := IntKind.i64.wrap (p3 + ((2 * z21) + 1))) yk (by rw [IntWalk.i64_in _ (by omega)]; omega)) (GX.take (v := .pointer (some ⟨ab A0, ao A0 + (Int.toNat (p3 + ((2 * z21) + 1))) * 1, none⟩)) (rs := [[], []]) 12 rfl (by kernel_rfl) (fun _ ⟨_, H9⟩ => Yl.indexAddr (El37) rfl rfl ((H9.rds (i := 0) rfl).addr (i := Int.toNat (p3 + ((2 * z21) + 1))) (by omega)) (by omega)) (GX.take (v := .int .u64 ((x106 : Nat) : Int)) (rs := [[], []]) 13 rfl (by kernel_rfl) (fun _ ⟨_, H9⟩ => Yl.load rfl (Lds.one Try.isAgg30 (((H9.rds (i := 0) rfl).elem eN_len hx107 (by decide)).at_ (k := 0) rfl))) (GX.take (v := .slice A0 l0.length c0) (rs := [[19, 18], []]) 14 rfl (by kernel_rfl) (fun _ _ => Yl.move rfl) (GX.take (v := .int .i64 p3) (rs := [[19, 18, 17], []]) 15 rfl (by kernel_rfl) (fun _ _ => Yl.move rfl) (GX.take (v := .int .i64 z21) (rs := [[19, 18, 17], []]) 16 rfl (by kernel_rfl) (fun _ _ => Yl.move rfl) (GX.take (v := .int .i64 ((Int.toNat (p3 + z21) : Nat) : Int)) (rs := [[19, 18], []]) 17 rfl (by kernel_rfl) (fun _ _ => Yl.int (e := IntKind.i64.wrap (p3 + z21)) yk (by rw [IntWalk.i64_in _ (by omega)]; omega)) (GX.take (v := .pointer (some ⟨ab A0, ao A0 + (Int.toNat (p3 + z21)) * 1, none⟩)) (rs := [[19], []]) 18 rfl (by kernel_rfl) (fun _ ⟨_, H9⟩ => Yl.indexAddr (El37) rfl rfl ((H9.rds (i := 0) rfl).addr (i := Int.toNat (p3 + z21)) (by omega)) (by omega)) (GX.take (v := .int .u64 ((x104 : Nat) : Int)) (rs := [[], []]) 19 rfl (by kernel_rfl) (fun _ ⟨_, H9⟩ => Yl.load rfl (Lds.one Try.isAgg30 (((H9.rds (i := 0) rfl).elem eN_len hx105 (by decide)).at_ (k := 0) rfl))) (GX.take (v := .pointer (some ⟨ab A0, ao A0 + (Int.toNat (p3 + z21)) * 1, none⟩)) (rs := [[], []]) 20 rfl (by kernel_rfl) (fun _ ⟨_, H9⟩ => Yl.indexAddr (El37) rfl rfl ((H9.rds (i := 0) rfl).addr (i := Int.toNat (p3 + z21)) (by omega)) (by omega)) ?_))))))))))))))))))))
 refine GX.do0 21 rfl (by kernel_rfl) (Do.storeRow (vs := [.int .u64 ((x106 : Nat) : Int)]) (o := (Int.toNat (p3 + z21)) * 1 + 0) (q := ao A0 + (Int.toNat (p3 + z21)) * 1) H120 rfl (by omega) rfl Try.sizeOf30 rfl rfl (Nat.le_of_ble_eq_true rfl) (store_fits eN_len hx105 (Nat.le_of_ble_eq_true rfl)) (flat_set (y := x106) eN_len rfl (Nat.le_of_ble_eq_true rfl) hx105) ?_)
 intro w121 H122
 refine ⟨.inl (by kernel_rfl), ?_⟩
 obtain ⟨x123, hx124⟩ := at_of (ls := l22) (i := Int.toNat (p3 + ((2 * z21) + 1))) (by first | omega | (simp; done) | (simp; omega))
 obtain ⟨x125, hx126⟩ := rds_at (ls := (List.set l22 (Int.toNat (p3 + z21)) x106)) (i := Int.toNat (p3 + ((2 * z21) + 1))) eN_len (by decide) (H122.rds (i := 0) rfl) (by first | omega | (simp; done) | (simp; omega))
 refine GX.takeA (v := .pointer (some ⟨ab A0, ao A0 + (Int.toNat (p3 + ((2 * z21) + 1))) * 1, none⟩)) 22 rfl (by kernel_rfl) (fun _ => Yl.indexAddr (El37) rfl rfl ((H122.rds (i := 0) rfl).addr (i := Int.toNat (p3 + ((2 * z21) + 1))) (by omega)) (by omega)) ?_
 obtain ⟨x127, hx128⟩ := at_of (ls := (List.set l22 (Int.toNat (p3 + z21)) x106)) (i := Int.toNat (p3 + ((2 * z21) + 1))) (by first | omega | (simp; done) | (simp; omega))
 refine GX.do0 23 rfl (by kernel_rfl) (Do.storeRow (vs := [.int .u64 ((x104 : Nat) : Int)]) (o := (Int.toNat (p3 + ((2 * z21) + 1))) * 1 + 0) (q := ao A0 + (Int.toNat (p3 + ((2 * z21) + 1))) * 1) H122 rfl (by omega) rfl Try.sizeOf30 rfl rfl (Nat.le_of_ble_eq_true rfl) (store_fits eN_len hx128 (Nat.le_of_ble_eq_true rfl)) (flat_set (y := x104) eN_len rfl (Nat.le_of_ble_eq_true rfl) hx128) ?_)
 intro w129 H130
 refine ⟨.inl (by kernel_rfl), ?_⟩
 refine GX.done (by kernel_rfl) (Fin.then (Wp.region (Mz rfl (Az rfl (WL.nil (bN ?_))))))
 have H131 := H130.pk [0]
 exact Fin.round ((2 * z21) + 1, (List.set (List.set l22 (Int.toNat (p3 + z21)) x106) (Int.toNat (p3 + ((2 * z21) + 1))) x104), f36) ⟨rfl, rfl, rfl, rfl, trivial⟩ (dm31.2 ⟨H131, by first | omega | (simp only [List.length_set] <;> omega) | (simp only [List.length_replicate]), by omega, by omega, Eq.trans (hq32) (Eq.trans (if_neg h38) (Eq.trans (if_neg h43) (Eq.trans (bnd_of (getD_of hx105)) (Eq.trans (bnd_of (getD_of hx107)) (Eq.trans (bnd_of hr114) (if_pos h118))))))⟩) (by show f36 < f36 + 1; omega)
 refine jT (cn h118) (rt (tR (bR (tR (bR (Fin.res (res0 rfl) ?_))))))
 have H132 := H117.pk [0]
 obtain rfl : _ = l22 := hr.symm.trans (lp_r (et (hq32) (et (iN h38) (et (iN h43) (et (bnd_of (getD_of hx105)) (et (bnd_of (getD_of hx107)) (et (bnd_of hr114) (ifF h118))))))))
 exact ⟨rfl, H132, (by first | rfl | omega | (simp only [List.length_set] <;> omega))⟩
def slices_heapSortOrdered_uint64_L0 (p1 : Int) (p2 : Int) : Nat → Int → List Nat → (List Nat)
  | 0, z22, l23 => default
  | q24 + 1, z22, l23 => if z22 ≥ 0 then bnd (slices_siftDownOrdered_uint64 l23 z22 (p2 - p1) p1) fun yr45 => slices_heapSortOrdered_uint64_L0 p1 p2 q24 (z22 - 1) yr45 else l23
def slices_heapSortOrdered_uint64_L1 (p1 : Int) : Nat → Int → List Nat → (List Nat)
  | 0, z54, l55 => default
  | q56 + 1, z54, l55 => if z54 ≥ 0 then bnd (List.getD l55 (Int.toNat (p1 + z54)) default) fun yx74 => bnd (List.getD l55 (Int.toNat p1) default) fun yx76 => bnd (slices_siftDownOrdered_uint64 (List.set (List.set l55 (Int.toNat p1) yx74) (Int.toNat (p1 + z54)) yx76) 0 z54 p1) fun yr94 => slices_heapSortOrdered_uint64_L1 p1 q56 (z54 - 1) yr94 else l55
def slices_heapSortOrdered_uint64 (l0 : List Nat) (p1 : Int) (p2 : Int) : (List Nat) :=
 bnd (slices_heapSortOrdered_uint64_L0 p1 p2 ((Int.toNat ((((Int.toNat ((p2 - p1) - 1)) / 2 : Nat) : Int) + 1)) + 1) (((Int.toNat ((p2 - p1) - 1)) / 2 : Nat) : Int) l0) fun sLrL => bnd (slices_heapSortOrdered_uint64_L1 p1 ((Int.toNat (((p2 - p1) - 1) + 1)) + 1) ((p2 - p1) - 1) sLrL) fun sLrLaL => sLrLaL
set_option maxRecDepth 100000 in
theorem slices_heapSortOrdered_uint64_ok (w : World) (D : Nat → Prop) (A0 : Option Addr) (n0 c0 : Nat) (l0 : List Nat) (p1 : Int) (p2 : Int) (r0 : List Nat) (H : Own w D w [row A0 n0 c0 (List.flatMap (eN .u64) l0) 30 1]) (hn0 : n0 = l0.length) (hl0 : l0.length * 8 ≤ 211106232532992) (hh0 : 0 ≤ p1 ∧ p1 ≤ p2 ∧ p2 ≤ ((l0.length : Nat) : Int)) (hh1 : p1 < p2) (hr : slices_heapSortOrdered_uint64 l0 p1 p2 = r0) :
    Calls Try.prog 73 #[.slice A0 n0 c0, .int .i64 p1, .int .i64 p2] w (Ret fun v w' => v = .tuple #[] ∧ Own w D w' [row A0 n0 c0 (List.flatMap (eN .u64) r0) 30 1] ∧ (r0.length = l0.length)) := by
 subst hn0
 have hc0 := H.rowC (i := 0) rfl
 refine Calls.body (args := [.slice A0 l0.length c0, .int .i64 p1, .int .i64 p2]) Try.func73 rfl rfl rfl ?_
 show Wp _ _ _ [(0, .slice A0 l0.length c0), (1, .int .i64 p1), (2, .int .i64 p2)] _ _
 refine sr (Mz rfl (Ar rfl (Ar rfl (Mz rfl (Mz rfl (fw (.int .i64 (p2 - p1)) (Yl.int (e := IntKind.i64.wrap (p2 - p1)) yk (by rw [IntWalk.i64_in _ (by omega)])) (An rfl (Wp.seq (sr (Mz rfl (fw (.int .i64 ((p2 - p1) - 1)) (Yl.int (e := IntKind.i64.wrap ((p2 - p1) - 1)) yk (by rw [IntWalk.i64_in _ (by omega)])) ?_)))))))))))
 have hz21 : ((Int.toNat ((p2 - p1) - 1) : Nat) : Int) = (p2 - p1) - 1 := by omega
 refine fw (.int .i64 (((Int.toNat ((p2 - p1) - 1)) / 2 : Nat) : Int)) (Yl.int (e := IntKind.i64.wrap (Int.tdiv ((p2 - p1) - 1) 2)) yk (by rw [show Int.tdiv ((p2 - p1) - 1) 2 = (((Int.toNat ((p2 - p1) - 1)) / 2 : Nat) : Int) from tdivT (n := 2) (by omega), IntWalk.i64_in _ (by omega)])) (An rfl (bo ?_))
 have H26 : Own w D w [row A0 l0.length c0 (List.flatMap (eN .u64) l0) 30 1] := H.pk [0]
 obtain ⟨I30, hI31⟩ : ∃ q : (Int × (List Nat) × Nat) → World → Prop, q = fun (i : Int × (List Nat) × Nat) w' => Own w D w' [row A0 l0.length c0 (List.flatMap (eN .u64) i.2.1) 30 1] ∧ (i.2.1.length = l0.length ∧ (-1 ≤ i.1 ∧ i.1 ≤ p2 - p1) ∧ Int.toNat (i.1 + 1) < i.2.2 ∧ slices_heapSortOrdered_uint64_L0 p1 p2 ((Int.toNat ((((Int.toNat ((p2 - p1) - 1)) / 2 : Nat) : Int) + 1)) + 1) (((Int.toNat ((p2 - p1) - 1)) / 2 : Nat) : Int) l0 = slices_heapSortOrdered_uint64_L0 p1 p2 i.2.2 i.1 i.2.1) := ⟨_, rfl⟩
 have dm32 : ∀ {z22 : Int} {l23 : List Nat} {f25 : Nat} {w' : World}, I30 (z22, l23, f25) w' ↔ Own w D w' [row A0 l0.length c0 (List.flatMap (eN .u64) l23) 30 1] ∧ l23.length = l0.length ∧ (-1 ≤ z22 ∧ z22 ≤ p2 - p1) ∧ Int.toNat (z22 + 1) < f25 ∧ slices_heapSortOrdered_uint64_L0 p1 p2 ((Int.toNat ((((Int.toNat ((p2 - p1) - 1)) / 2 : Nat) : Int) + 1)) + 1) (((Int.toNat ((p2 - p1) - 1)) / 2 : Nat) : Int) l0 = slices_heapSortOrdered_uint64_L0 p1 p2 f25 z22 l23 := by intros; subst hI31; exact Iff.rfl
 refine Wp.loop (fun i : Int × (List Nat) × Nat => [(9, .int .i64 i.1), (8, .int .i64 (p2 - p1)), (7, .int .i64 0), (6, .int .i64 p1), (0, .slice A0 l0.length c0)]) I30 (fun i => i.2.2) ((((Int.toNat ((p2 - p1) - 1)) / 2 : Nat) : Int), l0, (Int.toNat ((((Int.toNat ((p2 - p1) - 1)) / 2 : Nat) : Int) + 1)) + 1) ⟨rfl, rfl, rfl, rfl, rfl, trivial⟩ (dm32.2 ⟨H26, by first | omega | (simp only [List.length_set] <;> omega) | (simp only [List.length_replicate]), by omega, by omega, rfl⟩) ?_
 rintro ⟨z22, l23, f25⟩ w27 hf29
 show Wp _ _ _ [(9, .int .i64 z22), (8, .int .i64 (p2 - p1)), (7, .int .i64 0), (6, .int .i64 p1), (0, .slice A0 l0.length c0)] _ _
 obtain ⟨H28, hi34, hi35, hi36, hq33⟩ := dm32.1 hf29
 obtain ⟨f37, hf38⟩ : ∃ q, f25 = q + 1 := ⟨f25 - 1, by omega⟩
 subst hf38
 refine Wp.seq (sr (Mz rfl (Kz (.bool (decide (z22 ≥ 0))) (nt ?_))))
 by_cases h39 : z22 ≥ 0
 refine jT (dT h39) (sk (Wp.seq (bo (Wp.region (Mz rfl (Mz rfl (Mz rfl (Mz rfl ?_))))))))
 obtain ⟨r45, hr46⟩ : ∃ q, slices_siftDownOrdered_uint64 l23 z22 (p2 - p1) p1 = q := ⟨_, rfl⟩
 obtain ⟨D40, HP41, ro42, bk43, rr44⟩ := Own.enter1 H28
 refine cl Try.call84 (slices_siftDownOrdered_uint64_ok _ _ A0 l0.length c0 l23 z22 (p2 - p1) p1 r45 HP41 (by first | rfl | omega | (simp only [List.length_append, List.length_cons, List.length_nil, List.length_take, List.length_drop, List.length_set, List.length_replicate, List.length_map] <;> omega)) (by omega) (by omega) hr46) ?_
 rintro _ w47 ⟨rfl, HQ48, hk50⟩
 have H49 := bk43 _ _ HQ48
 have hb51 := H49.rowC (i := 0) rfl
 replace hk50 : r45.length = l23.length := hk50
 refine WL.nil (bN (Fin.then (Wp.region (Mz rfl (fw (.int .i64 (z22 - 1)) (Yl.int (e := IntKind.i64.wrap (z22 - 1)) yk (by rw [IntWalk.i64_in _ (by omega)])) (Az rfl (WL.nil ?_)))))))
 have H52 := H49.pk [0]
 exact Fin.round (z22 - 1, r45, f37) ⟨rfl, rfl, rfl, rfl, rfl, trivial⟩ (dm32.2 ⟨H52, by first | omega | (simp only [List.length_set] <;> omega) | (simp only [List.length_replicate]), by omega, by omega, Eq.trans (hq33) (Eq.trans (if_pos h39) (bnd_of hr46))⟩) (by show f37 < f37 + 1; omega)
 refine jF (dF h39) (Wp.exit (Fin.thenX ?_))
 have hL53 : slices_heapSortOrdered_uint64_L0 p1 p2 ((Int.toNat ((((Int.toNat ((p2 - p1) - 1)) / 2 : Nat) : Int) + 1)) + 1) (((Int.toNat ((p2 - p1) - 1)) / 2 : Nat) : Int) l0 = l23 := et (hq33) (iN h39)
 refine Fin.thenX (Fin.blockX (Fin.then (sr (Mz rfl (fw (.int .i64 ((p2 - p1) - 1)) (Yl.int (e := IntKind.i64.wrap ((p2 - p1) - 1)) yk (by rw [IntWalk.i64_in _ (by omega)])) (An rfl (bo ?_)))))))
 have H58 := H28.pk [0]
 obtain ⟨I62, hI63⟩ : ∃ q : (Int × (List Nat) × Nat) → World → Prop, q = fun (i : Int × (List Nat) × Nat) w' => Own w D w' [row A0 l0.length c0 (List.flatMap (eN .u64) i.2.1) 30 1] ∧ (i.2.1.length = l0.length ∧ (-1 ≤ i.1 ∧ i.1 < p2 - p1) ∧ Int.toNat (i.1 + 1) < i.2.2 ∧ slices_heapSortOrdered_uint64_L1 p1 ((Int.toNat (((p2 - p1) - 1) + 1)) + 1) ((p2 - p1) - 1) l23 = slices_heapSortOrdered_uint64_L1 p1 i.2.2 i.1 i.2.1) := ⟨_, rfl⟩
 have dm64 : ∀ {z54 : Int} {l55 : List Nat} {f57 : Nat} {w' : World}, I62 (z54, l55, f57) w' ↔ Own w D w' [row A0 l0.length c0 (List.flatMap (eN .u64) l55) 30 1] ∧ l55.length = l0.length ∧ (-1 ≤ z54 ∧ z54 < p2 - p1) ∧ Int.toNat (z54 + 1) < f57 ∧ slices_heapSortOrdered_uint64_L1 p1 ((Int.toNat (((p2 - p1) - 1) + 1)) + 1) ((p2 - p1) - 1) l23 = slices_heapSortOrdered_uint64_L1 p1 f57 z54 l55 := by intros; subst hI63; exact Iff.rfl
 refine Wp.loop (fun i : Int × (List Nat) × Nat => [(10, .int .i64 i.1), (7, .int .i64 0), (6, .int .i64 p1), (0, .slice A0 l0.length c0)]) I62 (fun i => i.2.2) ((p2 - p1) - 1, l23, (Int.toNat (((p2 - p1) - 1) + 1)) + 1) ⟨rfl, rfl, rfl, rfl, trivial⟩ (dm64.2 ⟨H58, by first | omega | (simp only [List.length_set] <;> omega) | (simp only [List.length_replicate]), by omega, by omega, rfl⟩) ?_
 rintro ⟨z54, l55, f57⟩ w59 hf61
 show Wp _ _ _ [(10, .int .i64 z54), (7, .int .i64 0), (6, .int .i64 p1), (0, .slice A0 l0.length c0)] _ _
 obtain ⟨H60, hi66, hi67, hi68, hq65⟩ := dm64.1 hf61
 obtain ⟨f69, hf70⟩ : ∃ q, f57 = q + 1 := ⟨f57 - 1, by omega⟩
 subst hf70
 refine Wp.seq (sr (Mz rfl (Kz (.bool (decide (z54 ≥ 0))) (nt ?_))))
 by_cases h71 : z54 ≥ 0
 refine jT (dT h71) (sk (Wp.seq (bo (Wp.seq ?_))))
 have H73 := H60.drew
 refine Wp.drawnX [17, 19] (fun W => ∃ L', Own w D W ([row A0 l0.length c0 (List.flatMap (eN .u64) l55) 30 1] ++ L')) (by kernel_rfl) (by kernel_rfl) (NoP.then (NoP.block (NoP.then (NoP.then (NoP.block NoP.base))))) ⟨_, H73⟩ ?_
 revert H73
 generalize World.drew w59 = w72
 intro H73
 refine GX.take (v := .slice A0 l0.length c0) (rs := [[], []]) 0 rfl (by kernel_rfl) (fun _ _ => Yl.move rfl) (GX.take (v := .int .i64 ((Int.toNat p1 : Nat) : Int)) (rs := [[], []]) 1 rfl (by kernel_rfl) (fun _ _ => Yl.int (e := p1) (Yl.move rfl) (by omega)) (GX.takeA (v := .slice A0 l0.length c0) 2 rfl (by kernel_rfl) (fun _ => Yl.move rfl) (GX.takeA (v := .int .i64 p1) 3 rfl (by kernel_rfl) (fun _ => Yl.move rfl) (GX.takeA (v := .int .i64 z54) 4 rfl (by kernel_rfl) (fun _ => Yl.move rfl) (GX.takeA (v := .int .i64 ((Int.toNat (p1 + z54) : Nat) : Int)) 5 rfl (by kernel_rfl) (fun _ => Yl.int (e := IntKind.i64.wrap (p1 + z54)) yk (by rw [IntWalk.i64_in _ (by omega)]; omega)) (GX.take (v := .slice A0 l0.length c0) (rs := [[], []]) 6 rfl (by kernel_rfl) (fun _ _ => Yl.move rfl) (GX.take (v := .int .i64 p1) (rs := [[], []]) 7 rfl (by kernel_rfl) (fun _ _ => Yl.move rfl) (GX.take (v := .int .i64 z54) (rs := [[], []]) 8 rfl (by kernel_rfl) (fun _ _ => Yl.move rfl) (GX.take (v := .int .i64 ((Int.toNat (p1 + z54) : Nat) : Int)) (rs := [[], []]) 9 rfl (by kernel_rfl) (fun _ _ => Yl.int (e := IntKind.i64.wrap (p1 + z54)) yk (by rw [IntWalk.i64_in _ (by omega)]; omega)) ?_)))))))))
 obtain ⟨x74, hx75⟩ := at_of (ls := l55) (i := Int.toNat (p1 + z54)) (by first | omega | (simp; done) | (simp; omega))
 refine GX.take (v := .pointer (some ⟨ab A0, ao A0 + (Int.toNat (p1 + z54)) * 1, none⟩)) (rs := [[], []]) 10 rfl (by kernel_rfl) (fun _ ⟨_, H9⟩ => Yl.indexAddr (El37) rfl rfl ((H9.rds (i := 0) rfl).addr (i := Int.toNat (p1 + z54)) (by omega)) (by omega)) (GX.take (v := .int .u64 ((x74 : Nat) : Int)) (rs := [[], []]) 11 rfl (by kernel_rfl) (fun _ ⟨_, H9⟩ => Yl.load rfl (Lds.one Try.isAgg30 (((H9.rds (i := 0) rfl).elem eN_len hx75 (by decide)).at_ (k := 0) rfl))) (GX.take (v := .slice A0 l0.length c0) (rs := [[15, 14], []]) 12 rfl (by kernel_rfl) (fun _ _ => Yl.move rfl) (GX.take (v := .int .i64 ((Int.toNat p1 : Nat) : Int)) (rs := [[15, 14], []]) 13 rfl (by kernel_rfl) (fun _ _ => Yl.int (e := p1) (Yl.move rfl) (by omega)) ?_)))
 obtain ⟨x76, hx77⟩ := at_of (ls := l55) (i := Int.toNat p1) (by first | omega | (simp; done) | (simp; omega))
 refine GX.take (v := .pointer (some ⟨ab A0, ao A0 + (Int.toNat p1) * 1, none⟩)) (rs := [[15], []]) 14 rfl (by kernel_rfl) (fun _ ⟨_, H9⟩ => Yl.indexAddr (El37) rfl rfl ((H9.rds (i := 0) rfl).addr (i := Int.toNat p1) (by omega)) (by omega)) (GX.take (v := .int .u64 ((x76 : Nat) : Int)) (rs := [[], []]) 15 rfl (by kernel_rfl) (fun _ ⟨_, H9⟩ => Yl.load rfl (Lds.one Try.isAgg30 (((H9.rds (i := 0) rfl).elem eN_len hx77 (by decide)).at_ (k := 0) rfl))) (GX.take (v := .pointer (some ⟨ab A0, ao A0 + (Int.toNat p1) * 1, none⟩)) (rs := [[], []]) 16 rfl (by kernel_rfl) (fun _ ⟨_, H9⟩ => Yl.indexAddr (El37) rfl rfl ((H9.rds (i := 0) rfl).addr (i := Int.toNat p1) (by omega)) (by omega)) ?_))
 refine GX.do0 17 rfl (by kernel_rfl) (Do.storeRow (vs := [.int .u64 ((x74 : Nat) : Int)]) (o := (Int.toNat p1) * 1 + 0) (q := ao A0 + (Int.toNat p1) * 1) H73 rfl (by omega) rfl Try.sizeOf30 rfl rfl (Nat.le_of_ble_eq_true rfl) (store_fits eN_len hx77 (Nat.le_of_ble_eq_true rfl)) (flat_set (y := x74) eN_len rfl (Nat.le_of_ble_eq_true rfl) hx77) ?_)
 intro w78 H79
 refine ⟨.inl (by kernel_rfl), ?_⟩
 obtain ⟨x80, hx81⟩ := at_of (ls := l55) (i := Int.toNat (p1 + z54)) (by first | omega | (simp; done) | (simp; omega))
 obtain ⟨x82, hx83⟩ := rds_at (ls := (List.set l55 (Int.toNat p1) x74)) (i := Int.toNat (p1 + z54)) eN_len (by decide) (H79.rds (i := 0) rfl) (by first | omega | (simp; done) | (simp; omega))
 refine GX.takeA (v := .pointer (some ⟨ab A0, ao A0 + (Int.toNat (p1 + z54)) * 1, none⟩)) 18 rfl (by kernel_rfl) (fun _ => Yl.indexAddr (El37) rfl rfl ((H79.rds (i := 0) rfl).addr (i := Int.toNat (p1 + z54)) (by omega)) (by omega)) ?_
 obtain ⟨x84, hx85⟩ := at_of (ls := (List.set l55 (Int.toNat p1) x74)) (i := Int.toNat (p1 + z54)) (by first | omega | (simp; done) | (simp; omega))
 refine GX.do0 19 rfl (by kernel_rfl) (Do.storeRow (vs := [.int .u64 ((x76 : Nat) : Int)]) (o := (Int.toNat (p1 + z54)) * 1 + 0) (q := ao A0 + (Int.toNat (p1 + z54)) * 1) H79 rfl (by omega) rfl Try.sizeOf30 rfl rfl (Nat.le_of_ble_eq_true rfl) (store_fits eN_len hx85 (Nat.le_of_ble_eq_true rfl)) (flat_set (y := x76) eN_len rfl (Nat.le_of_ble_eq_true rfl) hx85) ?_)
 intro w86 H87
 refine ⟨.inl (by kernel_rfl), ?_⟩
 refine GX.done (by kernel_rfl) (Fin.then (Wp.region (Mz rfl (Mz rfl (Mz rfl (Mz rfl ?_))))))
 have hz93 : l0.length = List.length (List.set (List.set l55 (Int.toNat p1) x74) (Int.toNat (p1 + z54)) x76) := (by first | rfl | omega | (simp only [List.length_append, List.length_cons, List.length_nil, List.length_take, List.length_drop, List.length_set, List.length_replicate, List.length_map] <;> omega))
 obtain ⟨r94, hr95⟩ : ∃ q, slices_siftDownOrdered_uint64 (List.set (List.set l55 (Int.toNat p1) x74) (Int.toNat (p1 + z54)) x76) 0 z54 p1 = q := ⟨_, rfl⟩
 obtain ⟨D88, HP89, ro90, bk91, rr92⟩ := Own.enter1 H87
 refine cl Try.call84 (slices_siftDownOrdered_uint64_ok _ _ A0 l0.length c0 (List.set (List.set l55 (Int.toNat p1) x74) (Int.toNat (p1 + z54)) x76) 0 z54 p1 r94 HP89 (by first | rfl | omega | (simp only [List.length_append, List.length_cons, List.length_nil, List.length_take, List.length_drop, List.length_set, List.length_replicate, List.length_map] <;> omega)) (by first | omega | (simp only [List.length_append, List.length_cons, List.length_nil, List.length_take, List.length_drop, List.length_set]; omega)) (by omega) hr95) ?_
 rintro _ w96 ⟨rfl, HQ97, hk99⟩
 have H98 := bk91 _ _ HQ97
 have hb100 := H98.rowC (i := 0) rfl
 replace hk99 : r94.length = List.length (List.set (List.set l55 (Int.toNat p1) x74) (Int.toNat (p1 + z54)) x76) := hk99
 refine WL.nil (bN (Fin.then (Wp.region (Mz rfl (fw (.int .i64 (z54 - 1)) (Yl.int (e := IntKind.i64.wrap (z54 - 1)) yk (by rw [IntWalk.i64_in _ (by omega)])) (Az rfl (WL.nil ?_)))))))
 have H101 := H98.pk [0]
 exact Fin.round (z54 - 1, r94, f69) ⟨rfl, rfl, rfl, rfl, trivial⟩ (dm64.2 ⟨H101, by first | omega | (simp only [List.length_set] <;> omega) | (simp only [List.length_replicate]), by omega, by omega, Eq.trans (hq65) (Eq.trans (if_pos h71) (Eq.trans (bnd_of (getD_of hx75)) (Eq.trans (bnd_of (getD_of hx77)) (bnd_of hr95))))⟩) (by show f69 < f69 + 1; omega)
 refine jF (dF h71) (Wp.exit (Fin.thenX ?_))
 have hL102 : slices_heapSortOrdered_uint64_L1 p1 ((Int.toNat (((p2 - p1) - 1) + 1)) + 1) ((p2 - p1) - 1) l23 = l55 := et (hq65) (iN h71)
 refine Fin.thenX (Fin.blockX (Fin.res0 (res0 rfl) ?_))
 have H103 := H60.pk [0]
 obtain rfl : _ = l55 := hr.symm.trans (et (bnd_of hL53) (bnd_of hL102))
 exact ⟨rfl, H103, (by first | rfl | omega | (simp only [List.length_set] <;> omega))⟩
def slices_reverseRangeOrdered_uint64_L0 : Nat → Int → Int → List Nat → (List Nat)
  | 0, z21, z22, l23 => default
  | q24 + 1, z21, z22, l23 => if z21 < z22 then bnd (List.getD l23 (Int.toNat z22) default) fun yx42 => bnd (List.getD l23 (Int.toNat z21) default) fun yx44 => slices_reverseRangeOrdered_uint64_L0 q24 (z21 + 1) (z22 - 1) (List.set (List.set l23 (Int.toNat z21) yx42) (Int.toNat z22) yx44) else l23
def slices_reverseRangeOrdered_uint64 (l0 : List Nat) (p1 : Int) (p2 : Int) : (List Nat) :=
 bnd (slices_reverseRangeOrdered_uint64_L0 ((Int.toNat ((p2 - 1) - p1)) + 1) p1 (p2 - 1) l0) fun sLrL => sLrL
set_option maxRecDepth 100000 in
theorem slices_reverseRangeOrdered_uint64_ok (w : World) (D : Nat → Prop) (A0 : Option Addr) (n0 c0 : Nat) (l0 : List Nat) (p1 : Int) (p2 : Int) (r0 : List Nat) (H : Own w D w [row A0 n0 c0 (List.flatMap (eN .u64) l0) 30 1]) (hn0 : n0 = l0.length) (hl0 : l0.length * 8 ≤ 211106232532992) (hh0 : 0 ≤ p1 ∧ p1 ≤ p2 ∧ p2 ≤ ((l0.length : Nat) : Int)) (hr : slices_reverseRangeOrdered_uint64 l0 p1 p2 = r0) :
    Calls Try.prog 76 #[.slice A0 n0 c0, .int .i64 p1, .int .i64 p2] w (Ret fun v w' => v = .tuple #[] ∧ Own w D w' [row A0 n0 c0 (List.flatMap (eN .u64) r0) 30 1] ∧ (r0.length = l0.length)) := by
 subst hn0
 have hc0 := H.rowC (i := 0) rfl
 refine Calls.body (args := [.slice A0 l0.length c0, .int .i64 p1, .int .i64 p2]) Try.func76 rfl rfl rfl ?_
 show Wp _ _ _ [(0, .slice A0 l0.length c0), (1, .int .i64 p1), (2, .int .i64 p2)] _ _
 refine sr (Mz rfl (Ar rfl (Mz rfl (fw (.int .i64 (p2 - 1)) (Yl.int (e := IntKind.i64.wrap (p2 - 1)) yk (by rw [IntWalk.i64_in _ (by omega)])) (An rfl (bo ?_))))))
 have H26 : Own w D w [row A0 l0.length c0 (List.flatMap (eN .u64) l0) 30 1] := H.pk [0]
 obtain ⟨I30, hI31⟩ : ∃ q : (Int × Int × (List Nat) × Nat) → World → Prop, q = fun (i : Int × Int × (List Nat) × Nat) w' => Own w D w' [row A0 l0.length c0 (List.flatMap (eN .u64) i.2.2.1) 30 1] ∧ (i.2.2.1.length = l0.length ∧ (p1 ≤ i.1 ∧ i.2.1 < p2) ∧ Int.toNat (i.2.1 - i.1) < i.2.2.2 ∧ slices_reverseRangeOrdered_uint64_L0 ((Int.toNat ((p2 - 1) - p1)) + 1) p1 (p2 - 1) l0 = slices_reverseRangeOrdered_uint64_L0 i.2.2.2 i.1 i.2.1 i.2.2.1) := ⟨_, rfl⟩
 have dm32 : ∀ {z21 : Int} {z22 : Int} {l23 : List Nat} {f25 : Nat} {w' : World}, I30 (z21, z22, l23, f25) w' ↔ Own w D w' [row A0 l0.length c0 (List.flatMap (eN .u64) l23) 30 1] ∧ l23.length = l0.length ∧ (p1 ≤ z21 ∧ z22 < p2) ∧ Int.toNat (z22 - z21) < f25 ∧ slices_reverseRangeOrdered_uint64_L0 ((Int.toNat ((p2 - 1) - p1)) + 1) p1 (p2 - 1) l0 = slices_reverseRangeOrdered_uint64_L0 f25 z21 z22 l23 := by intros; subst hI31; exact Iff.rfl
 refine Wp.loop (fun i : Int × Int × (List Nat) × Nat => [(6, .int .i64 i.1), (7, .int .i64 i.2.1), (0, .slice A0 l0.length c0)]) I30 (fun i => i.2.2.2) (p1, p2 - 1, l0, (Int.toNat ((p2 - 1) - p1)) + 1) ⟨rfl, rfl, rfl, trivial⟩ (dm32.2 ⟨H26, by first | omega | (simp only [List.length_set] <;> omega) | (simp only [List.length_replicate]), by omega, by omega, rfl⟩) ?_
 rintro ⟨z21, z22, l23, f25⟩ w27 hf29
 show Wp _ _ _ [(6, .int .i64 z21), (7, .int .i64 z22), (0, .slice A0 l0.length c0)] _ _
 obtain ⟨H28, hi34, hi35, hi36, hq33⟩ := dm32.1 hf29
 obtain ⟨f37, hf38⟩ : ∃ q, f25 = q + 1 := ⟨f25 - 1, by omega⟩
 subst hf38
 refine Wp.seq (sr (Mz rfl (Mz rfl (Kz (.bool (decide (z21 < z22))) (nt ?_)))))
 by_cases h39 : z21 < z22
 refine jT (dT h39) (sk (bo (Wp.seq ?_)))
 have H41 := H28.drew
 refine Wp.drawnX [13, 15] (fun W => ∃ L', Own w D W ([row A0 l0.length c0 (List.flatMap (eN .u64) l23) 30 1] ++ L')) (by kernel_rfl) (by kernel_rfl) (NoP.then (NoP.block (NoP.then (NoP.block NoP.base)))) ⟨_, H41⟩ ?_
 revert H41
 generalize World.drew w27 = w40
 intro H41
 refine GX.take (v := .slice A0 l0.length c0) (rs := [[], []]) 0 rfl (by kernel_rfl) (fun _ _ => Yl.move rfl) (GX.take (v := .int .i64 ((Int.toNat z21 : Nat) : Int)) (rs := [[], []]) 1 rfl (by kernel_rfl) (fun _ _ => Yl.int (e := z21) (Yl.move rfl) (by omega)) (GX.takeA (v := .slice A0 l0.length c0) 2 rfl (by kernel_rfl) (fun _ => Yl.move rfl) (GX.takeA (v := .int .i64 ((Int.toNat z22 : Nat) : Int)) 3 rfl (by kernel_rfl) (fun _ => Yl.int (e := z22) (Yl.move rfl) (by omega)) (GX.take (v := .slice A0 l0.length c0) (rs := [[], []]) 4 rfl (by kernel_rfl) (fun _ _ => Yl.move rfl) (GX.take (v := .int .i64 ((Int.toNat z22 : Nat) : Int)) (rs := [[], []]) 5 rfl (by kernel_rfl) (fun _ _ => Yl.int (e := z22) (Yl.move rfl) (by omega)) ?_)))))
 obtain ⟨x42, hx43⟩ := at_of (ls := l23) (i := Int.toNat z22) (by first | omega | (simp; done) | (simp; omega))
 refine GX.take (v := .pointer (some ⟨ab A0, ao A0 + (Int.toNat z22) * 1, none⟩)) (rs := [[], []]) 6 rfl (by kernel_rfl) (fun _ ⟨_, H9⟩ => Yl.indexAddr (El37) rfl rfl ((H9.rds (i := 0) rfl).addr (i := Int.toNat z22) (by omega)) (by omega)) (GX.take (v := .int .u64 ((x42 : Nat) : Int)) (rs := [[], []]) 7 rfl (by kernel_rfl) (fun _ ⟨_, H9⟩ => Yl.load rfl (Lds.one Try.isAgg30 (((H9.rds (i := 0) rfl).elem eN_len hx43 (by decide)).at_ (k := 0) rfl))) (GX.take (v := .slice A0 l0.length c0) (rs := [[11, 10], []]) 8 rfl (by kernel_rfl) (fun _ _ => Yl.move rfl) (GX.take (v := .int .i64 ((Int.toNat z21 : Nat) : Int)) (rs := [[11, 10], []]) 9 rfl (by kernel_rfl) (fun _ _ => Yl.int (e := z21) (Yl.move rfl) (by omega)) ?_)))
 obtain ⟨x44, hx45⟩ := at_of (ls := l23) (i := Int.toNat z21) (by first | omega | (simp; done) | (simp; omega))
 refine GX.take (v := .pointer (some ⟨ab A0, ao A0 + (Int.toNat z21) * 1, none⟩)) (rs := [[11], []]) 10 rfl (by kernel_rfl) (fun _ ⟨_, H9⟩ => Yl.indexAddr (El37) rfl rfl ((H9.rds (i := 0) rfl).addr (i := Int.toNat z21) (by omega)) (by omega)) (GX.take (v := .int .u64 ((x44 : Nat) : Int)) (rs := [[], []]) 11 rfl (by kernel_rfl) (fun _ ⟨_, H9⟩ => Yl.load rfl (Lds.one Try.isAgg30 (((H9.rds (i := 0) rfl).elem eN_len hx45 (by decide)).at_ (k := 0) rfl))) (GX.take (v := .pointer (some ⟨ab A0, ao A0 + (Int.toNat z21) * 1, none⟩)) (rs := [[], []]) 12 rfl (by kernel_rfl) (fun _ ⟨_, H9⟩ => Yl.indexAddr (El37) rfl rfl ((H9.rds (i := 0) rfl).addr (i := Int.toNat z21) (by omega)) (by omega)) ?_))
 refine GX.do0 13 rfl (by kernel_rfl) (Do.storeRow (vs := [.int .u64 ((x42 : Nat) : Int)]) (o := (Int.toNat z21) * 1 + 0) (q := ao A0 + (Int.toNat z21) * 1) H41 rfl (by omega) rfl Try.sizeOf30 rfl rfl (Nat.le_of_ble_eq_true rfl) (store_fits eN_len hx45 (Nat.le_of_ble_eq_true rfl)) (flat_set (y := x42) eN_len rfl (Nat.le_of_ble_eq_true rfl) hx45) ?_)
 intro w46 H47
 refine ⟨.inl (by kernel_rfl), ?_⟩
 obtain ⟨x48, hx49⟩ := at_of (ls := l23) (i := Int.toNat z22) (by first | omega | (simp; done) | (simp; omega))
 obtain ⟨x50, hx51⟩ := rds_at (ls := (List.set l23 (Int.toNat z21) x42)) (i := Int.toNat z22) eN_len (by decide) (H47.rds (i := 0) rfl) (by first | omega | (simp; done) | (simp; omega))
 refine GX.takeA (v := .pointer (some ⟨ab A0, ao A0 + (Int.toNat z22) * 1, none⟩)) 14 rfl (by kernel_rfl) (fun _ => Yl.indexAddr (El37) rfl rfl ((H47.rds (i := 0) rfl).addr (i := Int.toNat z22) (by omega)) (by omega)) ?_
 obtain ⟨x52, hx53⟩ := at_of (ls := (List.set l23 (Int.toNat z21) x42)) (i := Int.toNat z22) (by first | omega | (simp; done) | (simp; omega))
 refine GX.do0 15 rfl (by kernel_rfl) (Do.storeRow (vs := [.int .u64 ((x44 : Nat) : Int)]) (o := (Int.toNat z22) * 1 + 0) (q := ao A0 + (Int.toNat z22) * 1) H47 rfl (by omega) rfl Try.sizeOf30 rfl rfl (Nat.le_of_ble_eq_true rfl) (store_fits eN_len hx53 (Nat.le_of_ble_eq_true rfl)) (flat_set (y := x44) eN_len rfl (Nat.le_of_ble_eq_true rfl) hx53) ?_)
 intro w54 H55
 refine ⟨.inl (by kernel_rfl), ?_⟩
 refine GX.done (by kernel_rfl) (Fin.then (sr (Mz rfl (fw (.int .i64 (z21 + 1)) (Yl.int (e := IntKind.i64.wrap (z21 + 1)) yk (by rw [IntWalk.i64_in _ (by omega)])) (An rfl (Wp.region (Mz rfl (fw (.int .i64 (z22 - 1)) (Yl.int (e := IntKind.i64.wrap (z22 - 1)) yk (by rw [IntWalk.i64_in _ (by omega)])) (Az rfl (WL.nil (bN ?_)))))))))))
 have H56 := H55.pk [0]
 exact Fin.round (z21 + 1, z22 - 1, (List.set (List.set l23 (Int.toNat z21) x42) (Int.toNat z22) x44), f37) ⟨rfl, rfl, rfl, trivial⟩ (dm32.2 ⟨H56, by first | omega | (simp only [List.length_set] <;> omega) | (simp only [List.length_replicate]), by omega, by omega, Eq.trans (hq33) (Eq.trans (if_pos h39) (Eq.trans (bnd_of (getD_of hx43)) (bnd_of (getD_of hx45))))⟩) (by show f37 < f37 + 1; omega)
 refine jF (dF h39) (Wp.exit (Fin.thenX ?_))
 have hL57 : slices_reverseRangeOrdered_uint64_L0 ((Int.toNat ((p2 - 1) - p1)) + 1) p1 (p2 - 1) l0 = l23 := et (hq33) (iN h39)
 refine Fin.thenX (Fin.blockX (Fin.res0 (res0 rfl) ?_))
 have H58 := H28.pk [0]
 obtain rfl : _ = l23 := hr.symm.trans (bnd_of hL57)
 exact ⟨rfl, H58, (by first | rfl | omega | (simp only [List.length_set] <;> omega))⟩
def slices_partitionOrdered_uint64_L0 (l0 : List Nat) (p1 : Int) (p2 : Int) (p3 : Int) (x23 : Nat) (x25 : Nat) : Nat → Int → Int
  | 0, z41 => default
  | q42 + 1, z41 => if z41 ≤ p2 - 1 then bnd (List.getD (List.set (List.set l0 (Int.toNat p1) x23) (Int.toNat p3) x25) (Int.toNat z41) default) fun yx59 => bnd (List.getD (List.set (List.set l0 (Int.toNat p1) x23) (Int.toNat p3) x25) (Int.toNat p1) default) fun yx61 => bnd (cmp_Less_uint64 yx59 yx61) fun yr68 => if yr68 = true then slices_partitionOrdered_uint64_L0 l0 p1 p2 p3 x23 x25 q42 (z41 + 1) else z41 else z41
def slices_partitionOrdered_uint64_L1 (l0 : List Nat) (p1 : Int) (p3 : Int) (x23 : Nat) (x25 : Nat) (z37 : Int) : Nat → Int → Int
  | 0, z88 => default
  | q89 + 1, z88 => if z37 ≤ z88 then bnd (List.getD (List.set (List.set l0 (Int.toNat p1) x23) (Int.toNat p3) x25) (Int.toNat z88) default) fun yx106 => bnd (List.getD (List.set (List.set l0 (Int.toNat p1) x23) (Int.toNat p3) x25) (Int.toNat p1) default) fun yx108 => bnd (cmp_Less_uint64 yx106 yx108) fun yr115 => if yr115 = true then z88 else slices_partitionOrdered_uint64_L1 l0 p1 p3 x23 x25 z37 q89 (z88 - 1) else z88
def slices_partitionOrdered_uint64_L3 (p1 : Int) (z166 : Int) (l167 : List Nat) : Nat → Int → Int
  | 0, z187 => default
  | q188 + 1, z187 => if z187 ≤ z166 then bnd (List.getD l167 (Int.toNat z187) default) fun yx206 => bnd (List.getD l167 (Int.toNat p1) default) fun yx208 => bnd (cmp_Less_uint64 yx206 yx208) fun yr215 => if yr215 = true then slices_partitionOrdered_uint64_L3 p1 z166 l167 q188 (z187 + 1) else z187 else z187
def slices_partitionOrdered_uint64_L4 (p1 : Int) (l167 : List Nat) (z183 : Int) : Nat → Int → Int
  | 0, z235 => default
  | q236 + 1, z235 => if z183 ≤ z235 then bnd (List.getD l167 (Int.toNat z235) default) fun yx254 => bnd (List.getD l167 (Int.toNat p1) default) fun yx256 => bnd (cmp_Less_uint64 yx254 yx256) fun yr263 => if yr263 = true then z235 else slices_partitionOrdered_uint64_L4 p1 l167 z183 q236 (z235 - 1) else z235
def slices_partitionOrdered_uint64_L2 (p1 : Int) (p2 : Int) : Nat → Int → Int → List Nat → (List Nat) × Int
  | 0, z165, z166, l167 => default
  | q168 + 1, z165, z166, l167 => bnd (bnd (slices_partitionOrdered_uint64_L3 p1 z166 l167 ((Int.toNat (p2 - z165)) + 1) z165) fun sLrbbbbJaJafbbbbLsJjL => sLrbbbbJaJafbbbbLsJjL) fun sJrbbbbJaJafbbbbLsJ => bnd (bnd (slices_partitionOrdered_uint64_L4 p1 l167 sJrbbbbJaJafbbbbLsJ ((Int.toNat (z166 - p1)) + 1) z166) fun sLrbbbbJaJafbbbbLsJaJjL => sLrbbbbJaJafbbbbLsJaJjL) fun sJrbbbbJaJafbbbbLsJaJ => if sJrbbbbJaJafbbbbLsJ > sJrbbbbJaJafbbbbLsJaJ then (l167, sJrbbbbJaJafbbbbLsJaJ) else bnd (List.getD l167 (Int.toNat sJrbbbbJaJafbbbbLsJaJ) default) fun yx300 => bnd (List.getD l167 (Int.toNat sJrbbbbJaJafbbbbLsJ) default) fun yx302 => slices_partitionOrdered_uint64_L2 p1 p2 q168 (sJrbbbbJaJafbbbbLsJ + 1) (sJrbbbbJaJafbbbbLsJaJ - 1) (List.set (List.set l167 (Int.toNat sJrbbbbJaJafbbbbLsJ) yx300) (Int.toNat sJrbbbbJaJafbbbbLsJaJ) yx302)
def slices_partitionOrdered_uint64 (l0 : List Nat) (p1 : Int) (p2 : Int) (p3 : Int) : Int × Bool × (List Nat) :=
 bnd (List.getD l0 (Int.toNat p3) default) fun yx23 => bnd (List.getD l0 (Int.toNat p1) default) fun yx25 => bnd (bnd (slices_partitionOrdered_uint64_L0 l0 p1 p2 p3 yx23 yx25 ((Int.toNat (p2 - (p1 + 1))) + 1) (p1 + 1)) fun sLrbbbbJjL => sLrbbbbJjL) fun sJrbbbbJ => bnd (bnd (slices_partitionOrdered_uint64_L1 l0 p1 p3 yx23 yx25 sJrbbbbJ ((Int.toNat ((p2 - 1) - p1)) + 1) (p2 - 1)) fun sLrbbbbJaJjL => sLrbbbbJaJjL) fun sJrbbbbJaJ => if sJrbbbbJ > sJrbbbbJaJ then bnd (List.getD (List.set (List.set l0 (Int.toNat p1) yx23) (Int.toNat p3) yx25) (Int.toNat p1) default) fun yx134 => bnd (List.getD (List.set (List.set l0 (Int.toNat p1) yx23) (Int.toNat p3) yx25) (Int.toNat sJrbbbbJaJ) default) fun yx136 => (sJrbbbbJaJ, true, (List.set (List.set (List.set (List.set l0 (Int.toNat p1) yx23) (Int.toNat p3) yx25) (Int.toNat sJrbbbbJaJ) yx134) (Int.toNat p1) yx136)) else bnd (List.getD (List.set (List.set l0 (Int.toNat p1) yx23) (Int.toNat p3) yx25) (Int.toNat sJrbbbbJaJ) default) fun yx151 => bnd (List.getD (List.set (List.set l0 (Int.toNat p1) yx23) (Int.toNat p3) yx25) (Int.toNat sJrbbbbJ) default) fun yx153 => bnd (slices_partitionOrdered_uint64_L2 p1 p2 ((Int.toNat ((sJrbbbbJaJ - 1) - (sJrbbbbJ + 1) + 3)) + 1) (sJrbbbbJ + 1) (sJrbbbbJaJ - 1) (List.set (List.set (List.set (List.set l0 (Int.toNat p1) yx23) (Int.toNat p3) yx25) (Int.toNat sJrbbbbJ) yx151) (Int.toNat sJrbbbbJaJ) yx153)) fun sLrbbbbJaJafbbbbL => bnd (List.getD sLrbbbbJaJafbbbbL.1 (Int.toNat p1) default) fun yx283 => bnd (List.getD sLrbbbbJaJafbbbbL.1 (Int.toNat sLrbbbbJaJafbbbbL.2) default) fun yx285 => (sLrbbbbJaJafbbbbL.2, false, (List.set (List.set sLrbbbbJaJafbbbbL.1 (Int.toNat sLrbbbbJaJafbbbbL.2) yx283) (Int.toNat p1) yx285))
set_option maxRecDepth 100000 in
theorem slices_partitionOrdered_uint64_ok (w : World) (D : Nat → Prop) (A0 : Option Addr) (n0 c0 : Nat) (l0 : List Nat) (p1 : Int) (p2 : Int) (p3 : Int) (r0 : Int) (r1 : Bool) (r2 : List Nat) (H : Own w D w [row A0 n0 c0 (List.flatMap (eN .u64) l0) 30 1]) (hn0 : n0 = l0.length) (hl0 : l0.length * 8 ≤ 211106232532992) (hh0 : 0 ≤ p1 ∧ p1 ≤ p2 ∧ p2 ≤ ((l0.length : Nat) : Int)) (hh1 : p1 ≤ p3 ∧ p3 < p2) (hr : slices_partitionOrdered_uint64 l0 p1 p2 p3 = (r0, r1, r2)) :
    Calls Try.prog 80 #[.slice A0 n0 c0, .int .i64 p1, .int .i64 p2, .int .i64 p3] w (Ret fun v w' => v = .tuple #[.int .i64 r0, .bool r1] ∧ Own w D w' [row A0 n0 c0 (List.flatMap (eN .u64) r2) 30 1] ∧ (r2.length = l0.length) ∧ (p1 ≤ r0 ∧ r0 < p2)) := by
 subst hn0
 have hc0 := H.rowC (i := 0) rfl
 refine Calls.body (args := [.slice A0 l0.length c0, .int .i64 p1, .int .i64 p2, .int .i64 p3]) Try.func80 rfl rfl rfl ?_
 show Wp _ _ _ [(0, .slice A0 l0.length c0), (1, .int .i64 p1), (2, .int .i64 p2), (3, .int .i64 p3)] _ _
 refine sr (Az rfl (An rfl (Wp.seq ?_)))
 have H22 := H.drew
 refine Wp.drawnX [13, 15] (fun W => ∃ L', Own w D W ([row A0 l0.length c0 (List.flatMap (eN .u64) l0) 30 1] ++ L')) (by kernel_rfl) (by kernel_rfl) (NoP.then NoP.base) ⟨_, H22⟩ ?_
 revert H22
 generalize World.drew w = w21
 intro H22
 refine GX.take (v := .slice A0 l0.length c0) (rs := [[], []]) 0 rfl (by kernel_rfl) (fun _ _ => Yl.move rfl) (GX.take (v := .int .i64 ((Int.toNat p1 : Nat) : Int)) (rs := [[], []]) 1 rfl (by kernel_rfl) (fun _ _ => Yl.int (e := p1) (Yl.move rfl) (by omega)) (GX.takeA (v := .slice A0 l0.length c0) 2 rfl (by kernel_rfl) (fun _ => Yl.move rfl) (GX.takeA (v := .int .i64 ((Int.toNat p3 : Nat) : Int)) 3 rfl (by kernel_rfl) (fun _ => Yl.int (e := p3) (Yl.move rfl) (by omega)) (GX.take (v := .slice A0 l0.length c0) (rs := [[], []]) 4 rfl (by kernel_rfl) (fun _ _ => Yl.move rfl) (GX.take (v := .int .i64 ((Int.toNat p3 : Nat) : Int)) (rs := [[], []]) 5 rfl (by kernel_rfl) (fun _ _ => Yl.int (e := p3) (Yl.move rfl) (by omega)) ?_)))))
 obtain ⟨x23, hx24⟩ := at_of (ls := l0) (i := Int.toNat p3) (by first | omega | (simp; done) | (simp; omega))
 refine GX.take (v := .pointer (some ⟨ab A0, ao A0 + (Int.toNat p3) * 1, none⟩)) (rs := [[], []]) 6 rfl (by kernel_rfl) (fun _ ⟨_, H9⟩ => Yl.indexAddr (El37) rfl rfl ((H9.rds (i := 0) rfl).addr (i := Int.toNat p3) (by omega)) (by omega)) (GX.take (v := .int .u64 ((x23 : Nat) : Int)) (rs := [[], []]) 7 rfl (by kernel_rfl) (fun _ ⟨_, H9⟩ => Yl.load rfl (Lds.one Try.isAgg30 (((H9.rds (i := 0) rfl).elem eN_len hx24 (by decide)).at_ (k := 0) rfl))) (GX.take (v := .slice A0 l0.length c0) (rs := [[11, 10], []]) 8 rfl (by kernel_rfl) (fun _ _ => Yl.move rfl) (GX.take (v := .int .i64 ((Int.toNat p1 : Nat) : Int)) (rs := [[11, 10], []]) 9 rfl (by kernel_rfl) (fun _ _ => Yl.int (e := p1) (Yl.move rfl) (by omega)) ?_)))
 obtain ⟨x25, hx26⟩ := at_of (ls := l0) (i := Int.toNat p1) (by first | omega | (simp; done) | (simp; omega))
 refine GX.take (v := .pointer (some ⟨ab A0, ao A0 + (Int.toNat p1) * 1, none⟩)) (rs := [[11], []]) 10 rfl (by kernel_rfl) (fun _ ⟨_, H9⟩ => Yl.indexAddr (El37) rfl rfl ((H9.rds (i := 0) rfl).addr (i := Int.toNat p1) (by omega)) (by omega)) (GX.take (v := .int .u64 ((x25 : Nat) : Int)) (rs := [[], []]) 11 rfl (by kernel_rfl) (fun _ ⟨_, H9⟩ => Yl.load rfl (Lds.one Try.isAgg30 (((H9.rds (i := 0) rfl).elem eN_len hx26 (by decide)).at_ (k := 0) rfl))) (GX.take (v := .pointer (some ⟨ab A0, ao A0 + (Int.toNat p1) * 1, none⟩)) (rs := [[], []]) 12 rfl (by kernel_rfl) (fun _ ⟨_, H9⟩ => Yl.indexAddr (El37) rfl rfl ((H9.rds (i := 0) rfl).addr (i := Int.toNat p1) (by omega)) (by omega)) ?_))
 refine GX.do0 13 rfl (by kernel_rfl) (Do.storeRow (vs := [.int .u64 ((x23 : Nat) : Int)]) (o := (Int.toNat p1) * 1 + 0) (q := ao A0 + (Int.toNat p1) * 1) H22 rfl (by omega) rfl Try.sizeOf30 rfl rfl (Nat.le_of_ble_eq_true rfl) (store_fits eN_len hx26 (Nat.le_of_ble_eq_true rfl)) (flat_set (y := x23) eN_len rfl (Nat.le_of_ble_eq_true rfl) hx26) ?_)
 intro w27 H28
 refine ⟨.inl (by kernel_rfl), ?_⟩
 obtain ⟨x29, hx30⟩ := at_of (ls := l0) (i := Int.toNat p3) (by first | omega | (simp; done) | (simp; omega))
 obtain ⟨x31, hx32⟩ := rds_at (ls := (List.set l0 (Int.toNat p1) x23)) (i := Int.toNat p3) eN_len (by decide) (H28.rds (i := 0) rfl) (by first | omega | (simp; done) | (simp; omega))
 refine GX.takeA (v := .pointer (some ⟨ab A0, ao A0 + (Int.toNat p3) * 1, none⟩)) 14 rfl (by kernel_rfl) (fun _ => Yl.indexAddr (El37) rfl rfl ((H28.rds (i := 0) rfl).addr (i := Int.toNat p3) (by omega)) (by omega)) ?_
 obtain ⟨x33, hx34⟩ := at_of (ls := (List.set l0 (Int.toNat p1) x23)) (i := Int.toNat p3) (by first | omega | (simp; done) | (simp; omega))
 refine GX.do0 15 rfl (by kernel_rfl) (Do.storeRow (vs := [.int .u64 ((x25 : Nat) : Int)]) (o := (Int.toNat p3) * 1 + 0) (q := ao A0 + (Int.toNat p3) * 1) H28 rfl (by omega) rfl Try.sizeOf30 rfl rfl (Nat.le_of_ble_eq_true rfl) (store_fits eN_len hx34 (Nat.le_of_ble_eq_true rfl)) (flat_set (y := x25) eN_len rfl (Nat.le_of_ble_eq_true rfl) hx34) ?_)
 intro w35 H36
 refine ⟨.inl (by kernel_rfl), ?_⟩
 refine GX.done (by kernel_rfl) (Fin.then (sr (Mz rfl (fw (.int .i64 (p1 + 1)) (Yl.int (e := IntKind.i64.wrap (p1 + 1)) yk (by rw [IntWalk.i64_in _ (by omega)])) (Mz rfl (fw (.int .i64 (p2 - 1)) (Yl.int (e := IntKind.i64.wrap (p2 - 1)) yk (by rw [IntWalk.i64_in _ (by omega)])) (Az rfl (An rfl (Wp.seq ?_)))))))))
 obtain ⟨I38, hI39⟩ : ∃ q : Int → World → Prop, q = fun (i : Int) w' => Own w D w' [row A0 l0.length c0 (List.flatMap (eN .u64) (List.set (List.set l0 (Int.toNat p1) x23) (Int.toNat p3) x25)) 30 1] ∧ ((-9223372036854775808 ≤ i ∧ i ≤ 9223372036854775807) ∧ (p1 + 1 ≤ i ∧ i ≤ p2 ∧ p1 ≤ p2 - 1 ∧ p2 - 1 < p2 ∧ i ≤ p2 - 1 + 2) ∧ p1 + 1 ≤ i ∧ (bnd (slices_partitionOrdered_uint64_L0 l0 p1 p2 p3 x23 x25 ((Int.toNat (p2 - (p1 + 1))) + 1) (p1 + 1)) fun sLrbbbbJjL => sLrbbbbJjL) = i) := ⟨_, rfl⟩
 have dm40 : ∀ {z37 : Int} {w' : World}, I38 z37 w' ↔ Own w D w' [row A0 l0.length c0 (List.flatMap (eN .u64) (List.set (List.set l0 (Int.toNat p1) x23) (Int.toNat p3) x25)) 30 1] ∧ (-9223372036854775808 ≤ z37 ∧ z37 ≤ 9223372036854775807) ∧ (p1 + 1 ≤ z37 ∧ z37 ≤ p2 ∧ p1 ≤ p2 - 1 ∧ p2 - 1 < p2 ∧ z37 ≤ p2 - 1 + 2) ∧ p1 + 1 ≤ z37 ∧ (bnd (slices_partitionOrdered_uint64_L0 l0 p1 p2 p3 x23 x25 ((Int.toNat (p2 - (p1 + 1))) + 1) (p1 + 1)) fun sLrbbbbJjL => sLrbbbbJjL) = z37 := by intros; subst hI39; exact Iff.rfl
 refine Wp.joinT (fun i : Int => [(10, .int .i64 i), (11, .int .i64 (p2 - 1)), (9, .bool false), (8, .int .i64 0), (0, .slice A0 l0.length c0), (1, .int .i64 p1)]) I38 ?_ ?_
 refine bo ?_
 have H44 := H36.pk [0]
 obtain ⟨I48, hI49⟩ : ∃ q : (Int × Nat) → World → Prop, q = fun (i : Int × Nat) w' => Own w D w' [row A0 l0.length c0 (List.flatMap (eN .u64) (List.set (List.set l0 (Int.toNat p1) x23) (Int.toNat p3) x25)) 30 1] ∧ ((p1 + 1 ≤ i.1 ∧ i.1 ≤ p2 ∧ p1 ≤ p2 - 1 ∧ p2 - 1 < p2 ∧ i.1 ≤ p2 - 1 + 2) ∧ Int.toNat (p2 - i.1) < i.2 ∧ slices_partitionOrdered_uint64_L0 l0 p1 p2 p3 x23 x25 ((Int.toNat (p2 - (p1 + 1))) + 1) (p1 + 1) = slices_partitionOrdered_uint64_L0 l0 p1 p2 p3 x23 x25 i.2 i.1) := ⟨_, rfl⟩
 have dm50 : ∀ {z41 : Int} {f43 : Nat} {w' : World}, I48 (z41, f43) w' ↔ Own w D w' [row A0 l0.length c0 (List.flatMap (eN .u64) (List.set (List.set l0 (Int.toNat p1) x23) (Int.toNat p3) x25)) 30 1] ∧ (p1 + 1 ≤ z41 ∧ z41 ≤ p2 ∧ p1 ≤ p2 - 1 ∧ p2 - 1 < p2 ∧ z41 ≤ p2 - 1 + 2) ∧ Int.toNat (p2 - z41) < f43 ∧ slices_partitionOrdered_uint64_L0 l0 p1 p2 p3 x23 x25 ((Int.toNat (p2 - (p1 + 1))) + 1) (p1 + 1) = slices_partitionOrdered_uint64_L0 l0 p1 p2 p3 x23 x25 f43 z41 := by intros; subst hI49; exact Iff.rfl
 refine Wp.loop (fun i : Int × Nat => [(10, .int .i64 i.1), (11, .int .i64 (p2 - 1)), (9, .bool false), (8, .int .i64 0), (0, .slice A0 l0.length c0), (1, .int .i64 p1)]) I48 (fun i => i.2) (p1 + 1, (Int.toNat (p2 - (p1 + 1))) + 1) ⟨rfl, rfl, rfl, rfl, rfl, rfl, trivial⟩ (dm50.2 ⟨H44, by omega, by omega, rfl⟩) ?_
 rintro ⟨z41, f43⟩ w45 hf47
 show Wp _ _ _ [(10, .int .i64 z41), (11, .int .i64 (p2 - 1)), (9, .bool false), (8, .int .i64 0), (0, .slice A0 l0.length c0), (1, .int .i64 p1)] _ _
 obtain ⟨H46, hi52, hi53, hq51⟩ := dm50.1 hf47
 obtain ⟨f54, hf55⟩ : ∃ q, f43 = q + 1 := ⟨f43 - 1, by omega⟩
 subst hf55
 refine Wp.seq (Wp.seq ?_)
 have H57 := H46.drew
 refine Wp.drawnX [] (fun W => ∃ L', Own w D W ([row A0 l0.length c0 (List.flatMap (eN .u64) (List.set (List.set l0 (Int.toNat p1) x23) (Int.toNat p3) x25)) 30 1] ++ L')) (by kernel_rfl) (by kernel_rfl) (NoP.then (NoP.then (NoP.then (NoP.block (NoP.then NoP.base))))) ⟨_, H57⟩ ?_
 revert H57
 generalize World.drew w45 = w56
 intro H57
 refine GX.take (v := .int .i64 z41) (rs := []) 0 rfl (by kernel_rfl) (fun _ _ => Yl.move rfl) (GX.take (v := .int .i64 (p2 - 1)) (rs := []) 1 rfl (by kernel_rfl) (fun _ _ => Yl.move rfl) (GX.take (v := .bool (decide (z41 ≤ p2 - 1))) (rs := []) 2 rfl (by kernel_rfl) (fun _ _ => yk) (GX.take (v := .bool (decide (z41 ≤ p2 - 1))) (rs := []) 3 rfl (by kernel_rfl) (fun _ _ => Yl.move rfl) ?_)))
 by_cases h58 : z41 ≤ p2 - 1
 refine GX.takeG (v := .slice A0 l0.length c0) (rs := []) 4 rfl rfl rfl (dT h58) (by kernel_rfl) (fun _ _ => Yl.move rfl) (GX.takeG (v := .int .i64 ((Int.toNat z41 : Nat) : Int)) (rs := []) 5 rfl rfl rfl (dT h58) (by kernel_rfl) (fun _ _ => Yl.int (e := z41) (Yl.move rfl) (by omega)) ?_)
 obtain ⟨x59, hx60⟩ := at_of (ls := (List.set (List.set l0 (Int.toNat p1) x23) (Int.toNat p3) x25)) (i := Int.toNat z41) (by first | omega | (simp; done) | (simp; omega))
 refine GX.takeG (v := .pointer (some ⟨ab A0, ao A0 + (Int.toNat z41) * 1, none⟩)) (rs := []) 6 rfl rfl rfl (dT h58) (by kernel_rfl) (fun _ ⟨_, H9⟩ => Yl.indexAddr (El37) rfl rfl ((H9.rds (i := 0) rfl).addr (i := Int.toNat z41) (by omega)) (by omega)) (GX.takeG (v := .int .u64 ((x59 : Nat) : Int)) (rs := []) 7 rfl rfl rfl (dT h58) (by kernel_rfl) (fun _ ⟨_, H9⟩ => Yl.load rfl (Lds.one Try.isAgg30 (((H9.rds (i := 0) rfl).elem eN_len hx60 (by decide)).at_ (k := 0) rfl))) (GX.takeG (v := .slice A0 l0.length c0) (rs := []) 8 rfl rfl rfl (dT h58) (by kernel_rfl) (fun _ _ => Yl.move rfl) (GX.takeG (v := .int .i64 ((Int.toNat p1 : Nat) : Int)) (rs := []) 9 rfl rfl rfl (dT h58) (by kernel_rfl) (fun _ _ => Yl.int (e := p1) (Yl.move rfl) (by omega)) ?_)))
 obtain ⟨x61, hx62⟩ := at_of (ls := (List.set (List.set l0 (Int.toNat p1) x23) (Int.toNat p3) x25)) (i := Int.toNat p1) (by first | omega | (simp; done) | (simp; omega))
 refine GX.takeG (v := .pointer (some ⟨ab A0, ao A0 + (Int.toNat p1) * 1, none⟩)) (rs := []) 10 rfl rfl rfl (dT h58) (by kernel_rfl) (fun _ ⟨_, H9⟩ => Yl.indexAddr (El37) rfl rfl ((H9.rds (i := 0) rfl).addr (i := Int.toNat p1) (by omega)) (by omega)) (GX.takeG (v := .int .u64 ((x61 : Nat) : Int)) (rs := []) 11 rfl rfl rfl (dT h58) (by kernel_rfl) (fun _ ⟨_, H9⟩ => Yl.load rfl (Lds.one Try.isAgg30 (((H9.rds (i := 0) rfl).elem eN_len hx62 (by decide)).at_ (k := 0) rfl))) ?_)
 obtain ⟨r68, hr69⟩ : ∃ q, cmp_Less_uint64 x59 x61 = q := ⟨_, rfl⟩
 obtain ⟨D63, HP64, ro65, bk66, rr67⟩ := Own.enter0 H57
 refine GX.doG 12 rfl rfl rfl (dT h58) (by kernel_rfl) (Do.call Try.call78 rfl (cmp_Less_uint64_ok _ _ x59 x61 r68 HP64 hr69) ?_)
 rintro _ w70 ⟨rfl, HQ71⟩
 have H72 := bk66 _ _ HQ71
 refine ⟨.inr ⟨_, H72⟩, ?_⟩
 refine GX.take (v := .bool r68) (rs := []) 13 rfl (by kernel_rfl) (fun _ _ => Yl.pickT rfl (dT h58) rfl) (GX.done (by kernel_rfl) (Fin.then ?_))
 rcases Bool.eq_false_or_eq_true (r68) with h73 | h73
 refine jT h73 (sk (bo (Wp.region (Mz rfl (fw (.int .i64 (z41 + 1)) (Yl.int (e := IntKind.i64.wrap (z41 + 1)) yk (by rw [IntWalk.i64_in _ (by omega)])) (Az rfl (WL.nil (bN ?_))))))))
 have H74 := H72.pk [0]
 exact Fin.round (z41 + 1, f54) ⟨rfl, rfl, rfl, rfl, rfl, rfl, trivial⟩ (dm50.2 ⟨H74, by omega, by omega, et (hq51) (et (ip h58) (et (bnd_of (getD_of hx60)) (et (bnd_of (getD_of hx62)) (et (bnd_of hr69) (ip h73)))))⟩) (by show f54 < f54 + 1; omega)
 refine jF h73 (Wp.exit (Fin.thenX (Fin.thenX (Fin.blockX ?_))))
 have H75 := H72.pk [0]
 exact Fin.join z41 ⟨rfl, rfl, rfl, rfl, rfl, rfl, trivial⟩ (dm40.2 ⟨H75, by omega, by omega, by omega, bnd_of (et (hq51) (et (ip h58) (et (bnd_of (getD_of hx60)) (et (bnd_of (getD_of hx62)) (et (bnd_of hr69) (ifF h73))))))⟩)
 refine GX.skipG (rs := []) 4 rfl rfl rfl (dF h58) (by kernel_rfl) (GX.skipG (rs := []) 5 rfl rfl rfl (dF h58) (by kernel_rfl) (GX.skipG (rs := []) 6 rfl rfl rfl (dF h58) (by kernel_rfl) (GX.skipG (rs := []) 7 rfl rfl rfl (dF h58) (by kernel_rfl) (GX.skipG (rs := []) 8 rfl rfl rfl (dF h58) (by kernel_rfl) (GX.skipG (rs := []) 9 rfl rfl rfl (dF h58) (by kernel_rfl) (GX.skipG (rs := []) 10 rfl rfl rfl (dF h58) (by kernel_rfl) (GX.skipG (rs := []) 11 rfl rfl rfl (dF h58) (by kernel_rfl) (GX.skipG (rs := []) 12 rfl rfl rfl (dF h58) (by kernel_rfl) (GX.take (v := .bool false) (rs := []) 13 rfl (by kernel_rfl) (fun _ _ => Yl.pickF rfl (dF h58) rfl) (GX.done (by kernel_rfl) (Fin.then (jf (Wp.exit (Fin.thenX (Fin.thenX (Fin.blockX ?_))))))))))))))))
 have H76 := H57.pk [0]
 exact Fin.join z41 ⟨rfl, rfl, rfl, rfl, rfl, rfl, trivial⟩ (dm40.2 ⟨H76, by omega, by omega, by omega, bnd_of (et (hq51) (iN h58))⟩)
 rintro z37 w77 hf79
 show Wp _ _ _ [(10, .int .i64 z37), (11, .int .i64 (p2 - 1)), (9, .bool false), (8, .int .i64 0), (0, .slice A0 l0.length c0), (1, .int .i64 p1)] _ _
 obtain ⟨H78, hi81, hi82, hi83, hj80⟩ := dm40.1 hf79
 refine Wp.seq ?_
 obtain ⟨I85, hI86⟩ : ∃ q : Int → World → Prop, q = fun (i : Int) w' => Own w D w' [row A0 l0.length c0 (List.flatMap (eN .u64) (List.set (List.set l0 (Int.toNat p1) x23) (Int.toNat p3) x25)) 30 1] ∧ ((-9223372036854775808 ≤ i ∧ i ≤ 9223372036854775807) ∧ (p1 + 1 ≤ z37 ∧ z37 ≤ p2 ∧ p1 ≤ i ∧ i < p2 ∧ z37 ≤ i + 2) ∧ i ≤ p2 - 1 ∧ (bnd (slices_partitionOrdered_uint64_L1 l0 p1 p3 x23 x25 z37 ((Int.toNat ((p2 - 1) - p1)) + 1) (p2 - 1)) fun sLrbbbbJaJjL => sLrbbbbJaJjL) = i) := ⟨_, rfl⟩
 have dm87 : ∀ {z84 : Int} {w' : World}, I85 z84 w' ↔ Own w D w' [row A0 l0.length c0 (List.flatMap (eN .u64) (List.set (List.set l0 (Int.toNat p1) x23) (Int.toNat p3) x25)) 30 1] ∧ (-9223372036854775808 ≤ z84 ∧ z84 ≤ 9223372036854775807) ∧ (p1 + 1 ≤ z37 ∧ z37 ≤ p2 ∧ p1 ≤ z84 ∧ z84 < p2 ∧ z37 ≤ z84 + 2) ∧ z84 ≤ p2 - 1 ∧ (bnd (slices_partitionOrdered_uint64_L1 l0 p1 p3 x23 x25 z37 ((Int.toNat ((p2 - 1) - p1)) + 1) (p2 - 1)) fun sLrbbbbJaJjL => sLrbbbbJaJjL) = z84 := by intros; subst hI86; exact Iff.rfl
 refine Wp.joinT (fun i : Int => [(11, .int .i64 i), (10, .int .i64 z37), (9, .bool false), (8, .int .i64 0), (0, .slice A0 l0.length c0), (1, .int .i64 p1)]) I85 ?_ ?_
 refine bo ?_
 have H91 := H78.pk [0]
 obtain ⟨I95, hI96⟩ : ∃ q : (Int × Nat) → World → Prop, q = fun (i : Int × Nat) w' => Own w D w' [row A0 l0.length c0 (List.flatMap (eN .u64) (List.set (List.set l0 (Int.toNat p1) x23) (Int.toNat p3) x25)) 30 1] ∧ ((p1 + 1 ≤ z37 ∧ z37 ≤ p2 ∧ p1 ≤ i.1 ∧ i.1 < p2 ∧ z37 ≤ i.1 + 2) ∧ Int.toNat (i.1 - p1) < i.2 ∧ slices_partitionOrdered_uint64_L1 l0 p1 p3 x23 x25 z37 ((Int.toNat ((p2 - 1) - p1)) + 1) (p2 - 1) = slices_partitionOrdered_uint64_L1 l0 p1 p3 x23 x25 z37 i.2 i.1) := ⟨_, rfl⟩
 have dm97 : ∀ {z88 : Int} {f90 : Nat} {w' : World}, I95 (z88, f90) w' ↔ Own w D w' [row A0 l0.length c0 (List.flatMap (eN .u64) (List.set (List.set l0 (Int.toNat p1) x23) (Int.toNat p3) x25)) 30 1] ∧ (p1 + 1 ≤ z37 ∧ z37 ≤ p2 ∧ p1 ≤ z88 ∧ z88 < p2 ∧ z37 ≤ z88 + 2) ∧ Int.toNat (z88 - p1) < f90 ∧ slices_partitionOrdered_uint64_L1 l0 p1 p3 x23 x25 z37 ((Int.toNat ((p2 - 1) - p1)) + 1) (p2 - 1) = slices_partitionOrdered_uint64_L1 l0 p1 p3 x23 x25 z37 f90 z88 := by intros; subst hI96; exact Iff.rfl
 refine Wp.loop (fun i : Int × Nat => [(11, .int .i64 i.1), (10, .int .i64 z37), (9, .bool false), (8, .int .i64 0), (0, .slice A0 l0.length c0), (1, .int .i64 p1)]) I95 (fun i => i.2) (p2 - 1, (Int.toNat ((p2 - 1) - p1)) + 1) ⟨rfl, rfl, rfl, rfl, rfl, rfl, trivial⟩ (dm97.2 ⟨H91, by omega, by omega, rfl⟩) ?_
 rintro ⟨z88, f90⟩ w92 hf94
 show Wp _ _ _ [(11, .int .i64 z88), (10, .int .i64 z37), (9, .bool false), (8, .int .i64 0), (0, .slice A0 l0.length c0), (1, .int .i64 p1)] _ _
 obtain ⟨H93, hi99, hi100, hq98⟩ := dm97.1 hf94
 obtain ⟨f101, hf102⟩ : ∃ q, f90 = q + 1 := ⟨f90 - 1, by omega⟩
 subst hf102
 refine Wp.seq (Wp.seq ?_)
 have H104 := H93.drew
 refine Wp.drawnX [] (fun W => ∃ L', Own w D W ([row A0 l0.length c0 (List.flatMap (eN .u64) (List.set (List.set l0 (Int.toNat p1) x23) (Int.toNat p3) x25)) 30 1] ++ L')) (by kernel_rfl) (by kernel_rfl) (NoP.then (NoP.then (NoP.then (NoP.block (NoP.then NoP.base))))) ⟨_, H104⟩ ?_
 revert H104
 generalize World.drew w92 = w103
 intro H104
 refine GX.take (v := .int .i64 z37) (rs := []) 0 rfl (by kernel_rfl) (fun _ _ => Yl.move rfl) (GX.take (v := .int .i64 z88) (rs := []) 1 rfl (by kernel_rfl) (fun _ _ => Yl.move rfl) (GX.take (v := .bool (decide (z37 ≤ z88))) (rs := []) 2 rfl (by kernel_rfl) (fun _ _ => yk) (GX.take (v := .bool (decide (z37 ≤ z88))) (rs := []) 3 rfl (by kernel_rfl) (fun _ _ => Yl.move rfl) ?_)))
 by_cases h105 : z37 ≤ z88
 refine GX.takeG (v := .slice A0 l0.length c0) (rs := []) 4 rfl rfl rfl (dT h105) (by kernel_rfl) (fun _ _ => Yl.move rfl) (GX.takeG (v := .int .i64 ((Int.toNat z88 : Nat) : Int)) (rs := []) 5 rfl rfl rfl (dT h105) (by kernel_rfl) (fun _ _ => Yl.int (e := z88) (Yl.move rfl) (by omega)) ?_)
 obtain ⟨x106, hx107⟩ := at_of (ls := (List.set (List.set l0 (Int.toNat p1) x23) (Int.toNat p3) x25)) (i := Int.toNat z88) (by first | omega | (simp; done) | (simp; omega))
 refine GX.takeG (v := .pointer (some ⟨ab A0, ao A0 + (Int.toNat z88) * 1, none⟩)) (rs := []) 6 rfl rfl rfl (dT h105) (by kernel_rfl) (fun _ ⟨_, H9⟩ => Yl.indexAddr (El37) rfl rfl ((H9.rds (i := 0) rfl).addr (i := Int.toNat z88) (by omega)) (by omega)) (GX.takeG (v := .int .u64 ((x106 : Nat) : Int)) (rs := []) 7 rfl rfl rfl (dT h105) (by kernel_rfl) (fun _ ⟨_, H9⟩ => Yl.load rfl (Lds.one Try.isAgg30 (((H9.rds (i := 0) rfl).elem eN_len hx107 (by decide)).at_ (k := 0) rfl))) (GX.takeG (v := .slice A0 l0.length c0) (rs := []) 8 rfl rfl rfl (dT h105) (by kernel_rfl) (fun _ _ => Yl.move rfl) (GX.takeG (v := .int .i64 ((Int.toNat p1 : Nat) : Int)) (rs := []) 9 rfl rfl rfl (dT h105) (by kernel_rfl) (fun _ _ => Yl.int (e := p1) (Yl.move rfl) (by omega)) ?_)))
 obtain ⟨x108, hx109⟩ := at_of (ls := (List.set (List.set l0 (Int.toNat p1) x23) (Int.toNat p3) x25)) (i := Int.toNat p1) (by first | omega | (simp; done) | (simp; omega))
 refine GX.takeG (v := .pointer (some ⟨ab A0, ao A0 + (Int.toNat p1) * 1, none⟩)) (rs := []) 10 rfl rfl rfl (dT h105) (by kernel_rfl) (fun _ ⟨_, H9⟩ => Yl.indexAddr (El37) rfl rfl ((H9.rds (i := 0) rfl).addr (i := Int.toNat p1) (by omega)) (by omega)) (GX.takeG (v := .int .u64 ((x108 : Nat) : Int)) (rs := []) 11 rfl rfl rfl (dT h105) (by kernel_rfl) (fun _ ⟨_, H9⟩ => Yl.load rfl (Lds.one Try.isAgg30 (((H9.rds (i := 0) rfl).elem eN_len hx109 (by decide)).at_ (k := 0) rfl))) ?_)
 obtain ⟨r115, hr116⟩ : ∃ q, cmp_Less_uint64 x106 x108 = q := ⟨_, rfl⟩
 obtain ⟨D110, HP111, ro112, bk113, rr114⟩ := Own.enter0 H104
 refine GX.doG 12 rfl rfl rfl (dT h105) (by kernel_rfl) (Do.call Try.call78 rfl (cmp_Less_uint64_ok _ _ x106 x108 r115 HP111 hr116) ?_)
 rintro _ w117 ⟨rfl, HQ118⟩
 have H119 := bk113 _ _ HQ118
 refine ⟨.inr ⟨_, H119⟩, ?_⟩
 refine GX.takeG (v := .bool (!r115)) (rs := []) 13 rfl rfl rfl (dT h105) (by kernel_rfl) (fun _ _ => yk) (GX.take (v := .bool (!r115)) (rs := []) 14 rfl (by kernel_rfl) (fun _ _ => Yl.pickT rfl (dT h105) rfl) (GX.done (by kernel_rfl) (Fin.then ?_)))
 rcases Bool.eq_false_or_eq_true (r115) with h120 | h120
 refine jF (cn h120) (Wp.exit (Fin.thenX (Fin.thenX (Fin.blockX ?_))))
 have H121 := H119.pk [0]
 exact Fin.join z88 ⟨rfl, rfl, rfl, rfl, rfl, rfl, trivial⟩ (dm87.2 ⟨H121, by omega, by omega, by omega, bnd_of (et (hq98) (et (ip h105) (et (bnd_of (getD_of hx107)) (et (bnd_of (getD_of hx109)) (et (bnd_of hr116) (ip h120))))))⟩)
 refine jT (cn h120) (sk (bo (Wp.region (Mz rfl (fw (.int .i64 (z88 - 1)) (Yl.int (e := IntKind.i64.wrap (z88 - 1)) yk (by rw [IntWalk.i64_in _ (by omega)])) (Az rfl (WL.nil (bN ?_))))))))
 have H122 := H119.pk [0]
 exact Fin.round (z88 - 1, f101) ⟨rfl, rfl, rfl, rfl, rfl, rfl, trivial⟩ (dm97.2 ⟨H122, by omega, by omega, et (hq98) (et (ip h105) (et (bnd_of (getD_of hx107)) (et (bnd_of (getD_of hx109)) (et (bnd_of hr116) (ifF h120)))))⟩) (by show f101 < f101 + 1; omega)
 refine GX.skipG (rs := []) 4 rfl rfl rfl (dF h105) (by kernel_rfl) (GX.skipG (rs := []) 5 rfl rfl rfl (dF h105) (by kernel_rfl) (GX.skipG (rs := []) 6 rfl rfl rfl (dF h105) (by kernel_rfl) (GX.skipG (rs := []) 7 rfl rfl rfl (dF h105) (by kernel_rfl) (GX.skipG (rs := []) 8 rfl rfl rfl (dF h105) (by kernel_rfl) (GX.skipG (rs := []) 9 rfl rfl rfl (dF h105) (by kernel_rfl) (GX.skipG (rs := []) 10 rfl rfl rfl (dF h105) (by kernel_rfl) (GX.skipG (rs := []) 11 rfl rfl rfl (dF h105) (by kernel_rfl) (GX.skipG (rs := []) 12 rfl rfl rfl (dF h105) (by kernel_rfl) (GX.skipG (rs := []) 13 rfl rfl rfl (dF h105) (by kernel_rfl) (GX.take (v := .bool false) (rs := []) 14 rfl (by kernel_rfl) (fun _ _ => Yl.pickF rfl (dF h105) rfl) (GX.done (by kernel_rfl) (Fin.then (jf (Wp.exit (Fin.thenX (Fin.thenX (Fin.blockX ?_)))))))))))))))))
 have H123 := H104.pk [0]
 exact Fin.join z88 ⟨rfl, rfl, rfl, rfl, rfl, rfl, trivial⟩ (dm87.2 ⟨H123, by omega, by omega, by omega, bnd_of (et (hq98) (iN h105))⟩)
 rintro z84 w124 hf126
 show Wp _ _ _ [(11, .int .i64 z84), (10, .int .i64 z37), (9, .bool false), (8, .int .i64 0), (0, .slice A0 l0.length c0), (1, .int .i64 p1)] _ _
 obtain ⟨H125, hi128, hi129, hi130, hj127⟩ := dm87.1 hf126
 refine Wp.seq (sr (Mz rfl (Mz rfl (Kz (.bool (decide (z37 > z84))) (nt ?_)))))
 by_cases h131 : z37 > z84
 refine jT (dT h131) (Wp.seq ?_)
 have H133 := H125.drew
 refine Wp.drawnX [13, 15] (fun W => ∃ L', Own w D W ([row A0 l0.length c0 (List.flatMap (eN .u64) (List.set (List.set l0 (Int.toNat p1) x23) (Int.toNat p3) x25)) 30 1] ++ L')) (by kernel_rfl) (by kernel_rfl) (NoP.then (NoP.then NoP.base)) ⟨_, H133⟩ ?_
 revert H133
 generalize World.drew w124 = w132
 intro H133
 refine GX.take (v := .slice A0 l0.length c0) (rs := [[], []]) 0 rfl (by kernel_rfl) (fun _ _ => Yl.move rfl) (GX.take (v := .int .i64 ((Int.toNat z84 : Nat) : Int)) (rs := [[], []]) 1 rfl (by kernel_rfl) (fun _ _ => Yl.int (e := z84) (Yl.move rfl) (by omega)) (GX.takeA (v := .slice A0 l0.length c0) 2 rfl (by kernel_rfl) (fun _ => Yl.move rfl) (GX.takeA (v := .int .i64 ((Int.toNat p1 : Nat) : Int)) 3 rfl (by kernel_rfl) (fun _ => Yl.int (e := p1) (Yl.move rfl) (by omega)) (GX.take (v := .slice A0 l0.length c0) (rs := [[], []]) 4 rfl (by kernel_rfl) (fun _ _ => Yl.move rfl) (GX.take (v := .int .i64 ((Int.toNat p1 : Nat) : Int)) (rs := [[], []]) 5 rfl (by kernel_rfl) (fun _ _ => Yl.int (e := p1) (Yl.move rfl) (by omega)) ?_)))))
 obtain ⟨x134, hx135⟩ := at_of (ls := (List.set (List.set l0 (Int.toNat p1) x23) (Int.toNat p3) x25)) (i := Int.toNat p1) (by first | omega | (simp; done) | (simp; omega))
 refine GX.take (v := .pointer (some ⟨ab A0, ao A0 + (Int.toNat p1) * 1, none⟩)) (rs := [[], []]) 6 rfl (by kernel_rfl) (fun _ ⟨_, H9⟩ => Yl.indexAddr (El37) rfl rfl ((H9.rds (i := 0) rfl).addr (i := Int.toNat p1) (by omega)) (by omega)) (GX.take (v := .int .u64 ((x134 : Nat) : Int)) (rs := [[], []]) 7 rfl (by kernel_rfl) (fun _ ⟨_, H9⟩ => Yl.load rfl (Lds.one Try.isAgg30 (((H9.rds (i := 0) rfl).elem eN_len hx135 (by decide)).at_ (k := 0) rfl))) (GX.take (v := .slice A0 l0.length c0) (rs := [[11, 10], []]) 8 rfl (by kernel_rfl) (fun _ _ => Yl.move rfl) (GX.take (v := .int .i64 ((Int.toNat z84 : Nat) : Int)) (rs := [[11, 10], []]) 9 rfl (by kernel_rfl) (fun _ _ => Yl.int (e := z84) (Yl.move rfl) (by omega)) ?_)))
 obtain ⟨x136, hx137⟩ := at_of (ls := (List.set (List.set l0 (Int.toNat p1) x23) (Int.toNat p3) x25)) (i := Int.toNat z84) (by first | omega | (simp; done) | (simp; omega))
 refine GX.take (v := .pointer (some ⟨ab A0, ao A0 + (Int.toNat z84) * 1, none⟩)) (rs := [[11], []]) 10 rfl (by kernel_rfl) (fun _ ⟨_, H9⟩ => Yl.indexAddr (El37) rfl rfl ((H9.rds (i := 0) rfl).addr (i := Int.toNat z84) (by omega)) (by omega)) (GX.take (v := .int .u64 ((x136 : Nat) : Int)) (rs := [[], []]) 11 rfl (by kernel_rfl) (fun _ ⟨_, H9⟩ => Yl.load rfl (Lds.one Try.isAgg30 (((H9.rds (i := 0) rfl).elem eN_len hx137 (by decide)).at_ (k := 0) rfl))) (GX.take (v := .pointer (some ⟨ab A0, ao A0 + (Int.toNat z84) * 1, none⟩)) (rs := [[], []]) 12 rfl (by kernel_rfl) (fun _ ⟨_, H9⟩ => Yl.indexAddr (El37) rfl rfl ((H9.rds (i := 0) rfl).addr (i := Int.toNat z84) (by omega)) (by omega)) ?_))
 refine GX.do0 13 rfl (by kernel_rfl) (Do.storeRow (vs := [.int .u64 ((x134 : Nat) : Int)]) (o := (Int.toNat z84) * 1 + 0) (q := ao A0 + (Int.toNat z84) * 1) H133 rfl (by omega) rfl Try.sizeOf30 rfl rfl (Nat.le_of_ble_eq_true rfl) (store_fits eN_len hx137 (Nat.le_of_ble_eq_true rfl)) (flat_set (y := x134) eN_len rfl (Nat.le_of_ble_eq_true rfl) hx137) ?_)
 intro w138 H139
 refine ⟨.inl (by kernel_rfl), ?_⟩
 obtain ⟨x140, hx141⟩ := at_of (ls := (List.set (List.set l0 (Int.toNat p1) x23) (Int.toNat p3) x25)) (i := Int.toNat p1) (by first | omega | (simp; done) | (simp; omega))
 obtain ⟨x142, hx143⟩ := rds_at (ls := (List.set (List.set (List.set l0 (Int.toNat p1) x23) (Int.toNat p3) x25) (Int.toNat z84) x134)) (i := Int.toNat p1) eN_len (by decide) (H139.rds (i := 0) rfl) (by first | omega | (simp; done) | (simp; omega))
 refine GX.takeA (v := .pointer (some ⟨ab A0, ao A0 + (Int.toNat p1) * 1, none⟩)) 14 rfl (by kernel_rfl) (fun _ => Yl.indexAddr (El37) rfl rfl ((H139.rds (i := 0) rfl).addr (i := Int.toNat p1) (by omega)) (by omega)) ?_
 obtain ⟨x144, hx145⟩ := at_of (ls := (List.set (List.set (List.set l0 (Int.toNat p1) x23) (Int.toNat p3) x25) (Int.toNat z84) x134)) (i := Int.toNat p1) (by first | omega | (simp; done) | (simp; omega))
 refine GX.do0 15 rfl (by kernel_rfl) (Do.storeRow (vs := [.int .u64 ((x136 : Nat) : Int)]) (o := (Int.toNat p1) * 1 + 0) (q := ao A0 + (Int.toNat p1) * 1) H139 rfl (by omega) rfl Try.sizeOf30 rfl rfl (Nat.le_of_ble_eq_true rfl) (store_fits eN_len hx145 (Nat.le_of_ble_eq_true rfl)) (flat_set (y := x136) eN_len rfl (Nat.le_of_ble_eq_true rfl) hx145) ?_)
 intro w146 H147
 refine ⟨.inl (by kernel_rfl), ?_⟩
 refine GX.done (by kernel_rfl) (Fin.then (sr (Mz rfl (Az rfl (An rfl (rt (tR (Fin.res (res2 rfl rfl rfl) ?_))))))))
 have H148 := H147.pk [0]
 have e : slices_partitionOrdered_uint64 l0 p1 p2 p3 = (z84, true, (List.set (List.set (List.set (List.set l0 (Int.toNat p1) x23) (Int.toNat p3) x25) (Int.toNat z84) x134) (Int.toNat p1) x136)) := et (bnd_of (getD_of hx24)) (et (bnd_of (getD_of hx26)) (et (bnd_of hj80) (et (bnd_of hj127) (et (ip h131) (et (bnd_of (getD_of hx135)) (bnd_of (getD_of hx137)))))))
 obtain ⟨rfl, rfl, rfl⟩ := pj3 (e.symm.trans hr)
 exact ⟨rfl, H148, (by first | rfl | omega | (simp only [List.length_set] <;> omega)), (by omega)⟩
 refine jF (dF h131) (sk (Wp.seq ?_))
 have H150 := H125.drew
 refine Wp.drawnX [13, 15] (fun W => ∃ L', Own w D W ([row A0 l0.length c0 (List.flatMap (eN .u64) (List.set (List.set l0 (Int.toNat p1) x23) (Int.toNat p3) x25)) 30 1] ++ L')) (by kernel_rfl) (by kernel_rfl) (NoP.then NoP.base) ⟨_, H150⟩ ?_
 revert H150
 generalize World.drew w124 = w149
 intro H150
 refine GX.take (v := .slice A0 l0.length c0) (rs := [[], []]) 0 rfl (by kernel_rfl) (fun _ _ => Yl.move rfl) (GX.take (v := .int .i64 ((Int.toNat z37 : Nat) : Int)) (rs := [[], []]) 1 rfl (by kernel_rfl) (fun _ _ => Yl.int (e := z37) (Yl.move rfl) (by omega)) (GX.takeA (v := .slice A0 l0.length c0) 2 rfl (by kernel_rfl) (fun _ => Yl.move rfl) (GX.takeA (v := .int .i64 ((Int.toNat z84 : Nat) : Int)) 3 rfl (by kernel_rfl) (fun _ => Yl.int (e := z84) (Yl.move rfl) (by omega)) (GX.take (v := .slice A0 l0.length c0) (rs := [[], []]) 4 rfl (by kernel_rfl) (fun _ _ => Yl.move rfl) (GX.take (v := .int .i64 ((Int.toNat z84 : Nat) : Int)) (rs := [[], []]) 5 rfl (by kernel_rfl) (fun _ _ => Yl.int (e := z84) (Yl.move rfl) (by omega)) ?_)))))
 obtain ⟨x151, hx152⟩ := at_of (ls := (List.set (List.set l0 (Int.toNat p1) x23) (Int.toNat p3) x25)) (i := Int.toNat z84) (by first | omega | (simp; done) | (simp; omega))
 refine GX.take (v := .pointer (some ⟨ab A0, ao A0 + (Int.toNat z84) * 1, none⟩)) (rs := [[], []]) 6 rfl (by kernel_rfl) (fun _ ⟨_, H9⟩ => Yl.indexAddr (El37) rfl rfl ((H9.rds (i := 0) rfl).addr (i := Int.toNat z84) (by omega)) (by omega)) (GX.take (v := .int .u64 ((x151 : Nat) : Int)) (rs := [[], []]) 7 rfl (by kernel_rfl) (fun _ ⟨_, H9⟩ => Yl.load rfl (Lds.one Try.isAgg30 (((H9.rds (i := 0) rfl).elem eN_len hx152 (by decide)).at_ (k := 0) rfl))) (GX.take (v := .slice A0 l0.length c0) (rs := [[11, 10], []]) 8 rfl (by kernel_rfl) (fun _ _ => Yl.move rfl) (GX.take (v := .int .i64 ((Int.toNat z37 : Nat) : Int)) (rs := [[11, 10], []]) 9 rfl (by kernel_rfl) (fun _ _ => Yl.int (e := z37) (Yl.move rfl) (by omega)) ?_)))
 obtain ⟨x153, hx154⟩ := at_of (ls := (List.set (List.set l0 (Int.toNat p1) x23) (Int.toNat p3) x25)) (i := Int.toNat z37) (by first | omega | (simp; done) | (simp; omega))
 refine GX.take (v := .pointer (some ⟨ab A0, ao A0 + (Int.toNat z37) * 1, none⟩)) (rs := [[11], []]) 10 rfl (by kernel_rfl) (fun _ ⟨_, H9⟩ => Yl.indexAddr (El37) rfl rfl ((H9.rds (i := 0) rfl).addr (i := Int.toNat z37) (by omega)) (by omega)) (GX.take (v := .int .u64 ((x153 : Nat) : Int)) (rs := [[], []]) 11 rfl (by kernel_rfl) (fun _ ⟨_, H9⟩ => Yl.load rfl (Lds.one Try.isAgg30 (((H9.rds (i := 0) rfl).elem eN_len hx154 (by decide)).at_ (k := 0) rfl))) (GX.take (v := .pointer (some ⟨ab A0, ao A0 + (Int.toNat z37) * 1, none⟩)) (rs := [[], []]) 12 rfl (by kernel_rfl) (fun _ ⟨_, H9⟩ => Yl.indexAddr (El37) rfl rfl ((H9.rds (i := 0) rfl).addr (i := Int.toNat z37) (by omega)) (by omega)) ?_))
 refine GX.do0 13 rfl (by kernel_rfl) (Do.storeRow (vs := [.int .u64 ((x151 : Nat) : Int)]) (o := (Int.toNat z37) * 1 + 0) (q := ao A0 + (Int.toNat z37) * 1) H150 rfl (by omega) rfl Try.sizeOf30 rfl rfl (Nat.le_of_ble_eq_true rfl) (store_fits eN_len hx154 (Nat.le_of_ble_eq_true rfl)) (flat_set (y := x151) eN_len rfl (Nat.le_of_ble_eq_true rfl) hx154) ?_)
 intro w155 H156
 refine ⟨.inl (by kernel_rfl), ?_⟩
 obtain ⟨x157, hx158⟩ := at_of (ls := (List.set (List.set l0 (Int.toNat p1) x23) (Int.toNat p3) x25)) (i := Int.toNat z84) (by first | omega | (simp; done) | (simp; omega))
 obtain ⟨x159, hx160⟩ := rds_at (ls := (List.set (List.set (List.set l0 (Int.toNat p1) x23) (Int.toNat p3) x25) (Int.toNat z37) x151)) (i := Int.toNat z84) eN_len (by decide) (H156.rds (i := 0) rfl) (by first | omega | (simp; done) | (simp; omega))
 refine GX.takeA (v := .pointer (some ⟨ab A0, ao A0 + (Int.toNat z84) * 1, none⟩)) 14 rfl (by kernel_rfl) (fun _ => Yl.indexAddr (El37) rfl rfl ((H156.rds (i := 0) rfl).addr (i := Int.toNat z84) (by omega)) (by omega)) ?_
 obtain ⟨x161, hx162⟩ := at_of (ls := (List.set (List.set (List.set l0 (Int.toNat p1) x23) (Int.toNat p3) x25) (Int.toNat z37) x151)) (i := Int.toNat z84) (by first | omega | (simp; done) | (simp; omega))
 refine GX.do0 15 rfl (by kernel_rfl) (Do.storeRow (vs := [.int .u64 ((x153 : Nat) : Int)]) (o := (Int.toNat z84) * 1 + 0) (q := ao A0 + (Int.toNat z84) * 1) H156 rfl (by omega) rfl Try.sizeOf30 rfl rfl (Nat.le_of_ble_eq_true rfl) (store_fits eN_len hx162 (Nat.le_of_ble_eq_true rfl)) (flat_set (y := x153) eN_len rfl (Nat.le_of_ble_eq_true rfl) hx162) ?_)
 intro w163 H164
 refine ⟨.inl (by kernel_rfl), ?_⟩
 refine GX.done (by kernel_rfl) (Fin.then (sr (Mz rfl (fw (.int .i64 (z37 + 1)) (Yl.int (e := IntKind.i64.wrap (z37 + 1)) yk (by rw [IntWalk.i64_in _ (by omega)])) (Ar rfl (Mz rfl (fw (.int .i64 (z84 - 1)) (Yl.int (e := IntKind.i64.wrap (z84 - 1)) yk (by rw [IntWalk.i64_in _ (by omega)])) (An rfl (Wp.seq (bo ?_))))))))))
 have H170 := H164.pk [0]
 obtain ⟨I174, hI175⟩ : ∃ q : (Int × Int × (List Nat) × Nat) → World → Prop, q = fun (i : Int × Int × (List Nat) × Nat) w' => Own w D w' [row A0 l0.length c0 (List.flatMap (eN .u64) i.2.2.1) 30 1] ∧ (i.2.2.1.length = l0.length ∧ (p1 + 1 ≤ i.1 ∧ i.1 ≤ p2 ∧ p1 ≤ i.2.1 ∧ i.2.1 < p2 ∧ i.1 ≤ i.2.1 + 2) ∧ Int.toNat (i.2.1 - i.1 + 3) < i.2.2.2 ∧ slices_partitionOrdered_uint64_L2 p1 p2 ((Int.toNat ((z84 - 1) - (z37 + 1) + 3)) + 1) (z37 + 1) (z84 - 1) (List.set (List.set (List.set (List.set l0 (Int.toNat p1) x23) (Int.toNat p3) x25) (Int.toNat z37) x151) (Int.toNat z84) x153) = slices_partitionOrdered_uint64_L2 p1 p2 i.2.2.2 i.1 i.2.1 i.2.2.1) := ⟨_, rfl⟩
 have dm176 : ∀ {z165 : Int} {z166 : Int} {l167 : List Nat} {f169 : Nat} {w' : World}, I174 (z165, z166, l167, f169) w' ↔ Own w D w' [row A0 l0.length c0 (List.flatMap (eN .u64) l167) 30 1] ∧ l167.length = l0.length ∧ (p1 + 1 ≤ z165 ∧ z165 ≤ p2 ∧ p1 ≤ z166 ∧ z166 < p2 ∧ z165 ≤ z166 + 2) ∧ Int.toNat (z166 - z165 + 3) < f169 ∧ slices_partitionOrdered_uint64_L2 p1 p2 ((Int.toNat ((z84 - 1) - (z37 + 1) + 3)) + 1) (z37 + 1) (z84 - 1) (List.set (List.set (List.set (List.set l0 (Int.toNat p1) x23) (Int.toNat p3) x25) (Int.toNat z37) x151) (Int.toNat z84) x153) = slices_partitionOrdered_uint64_L2 p1 p2 f169 z165 z166 l167 := by intros; subst hI175; exact Iff.rfl
 refine Wp.loop (fun i : Int × Int × (List Nat) × Nat => [(10, .int .i64 i.1), (11, .int .i64 i.2.1), (9, .bool false), (8, .int .i64 0), (0, .slice A0 l0.length c0), (1, .int .i64 p1)]) I174 (fun i => i.2.2.2) (z37 + 1, z84 - 1, (List.set (List.set (List.set (List.set l0 (Int.toNat p1) x23) (Int.toNat p3) x25) (Int.toNat z37) x151) (Int.toNat z84) x153), (Int.toNat ((z84 - 1) - (z37 + 1) + 3)) + 1) ⟨rfl, rfl, rfl, rfl, rfl, rfl, trivial⟩ (dm176.2 ⟨H170, by first | omega | (simp only [List.length_set] <;> omega) | (simp only [List.length_replicate]), by omega, by omega, rfl⟩) ?_
 rintro ⟨z165, z166, l167, f169⟩ w171 hf173
 show Wp _ _ _ [(10, .int .i64 z165), (11, .int .i64 z166), (9, .bool false), (8, .int .i64 0), (0, .slice A0 l0.length c0), (1, .int .i64 p1)] _ _
 obtain ⟨H172, hi178, hi179, hi180, hq177⟩ := dm176.1 hf173
 obtain ⟨f181, hf182⟩ : ∃ q, f169 = q + 1 := ⟨f169 - 1, by omega⟩
 subst hf182
 refine bo (Wp.seq ?_)
 obtain ⟨I184, hI185⟩ : ∃ q : Int → World → Prop, q = fun (i : Int) w' => Own w D w' [row A0 l0.length c0 (List.flatMap (eN .u64) l167) 30 1] ∧ ((-9223372036854775808 ≤ i ∧ i ≤ 9223372036854775807) ∧ (p1 + 1 ≤ i ∧ i ≤ p2 ∧ p1 ≤ z166 ∧ z166 < p2 ∧ i ≤ z166 + 2) ∧ z165 ≤ i ∧ (bnd (slices_partitionOrdered_uint64_L3 p1 z166 l167 ((Int.toNat (p2 - z165)) + 1) z165) fun sLrbbbbJaJafbbbbLsJjL => sLrbbbbJaJafbbbbLsJjL) = i) := ⟨_, rfl⟩
 have dm186 : ∀ {z183 : Int} {w' : World}, I184 z183 w' ↔ Own w D w' [row A0 l0.length c0 (List.flatMap (eN .u64) l167) 30 1] ∧ (-9223372036854775808 ≤ z183 ∧ z183 ≤ 9223372036854775807) ∧ (p1 + 1 ≤ z183 ∧ z183 ≤ p2 ∧ p1 ≤ z166 ∧ z166 < p2 ∧ z183 ≤ z166 + 2) ∧ z165 ≤ z183 ∧ (bnd (slices_partitionOrdered_uint64_L3 p1 z166 l167 ((Int.toNat (p2 - z165)) + 1) z165) fun sLrbbbbJaJafbbbbLsJjL => sLrbbbbJaJafbbbbLsJjL) = z183 := by intros; subst hI185; exact Iff.rfl
 refine Wp.joinT (fun i : Int => [(10, .int .i64 i), (11, .int .i64 z166), (9, .bool false), (8, .int .i64 0), (0, .slice A0 l0.length c0), (1, .int .i64 p1)]) I184 ?_ ?_
 refine bo ?_
 have H190 := H172.pk [0]
 obtain ⟨I194, hI195⟩ : ∃ q : (Int × Nat) → World → Prop, q = fun (i : Int × Nat) w' => Own w D w' [row A0 l0.length c0 (List.flatMap (eN .u64) l167) 30 1] ∧ ((p1 + 1 ≤ i.1 ∧ i.1 ≤ p2 ∧ p1 ≤ z166 ∧ z166 < p2 ∧ i.1 ≤ z166 + 2) ∧ z165 ≤ i.1 ∧ Int.toNat (p2 - i.1) < i.2 ∧ slices_partitionOrdered_uint64_L3 p1 z166 l167 ((Int.toNat (p2 - z165)) + 1) z165 = slices_partitionOrdered_uint64_L3 p1 z166 l167 i.2 i.1) := ⟨_, rfl⟩
 have dm196 : ∀ {z187 : Int} {f189 : Nat} {w' : World}, I194 (z187, f189) w' ↔ Own w D w' [row A0 l0.length c0 (List.flatMap (eN .u64) l167) 30 1] ∧ (p1 + 1 ≤ z187 ∧ z187 ≤ p2 ∧ p1 ≤ z166 ∧ z166 < p2 ∧ z187 ≤ z166 + 2) ∧ z165 ≤ z187 ∧ Int.toNat (p2 - z187) < f189 ∧ slices_partitionOrdered_uint64_L3 p1 z166 l167 ((Int.toNat (p2 - z165)) + 1) z165 = slices_partitionOrdered_uint64_L3 p1 z166 l167 f189 z187 := by intros; subst hI195; exact Iff.rfl
 refine Wp.loop (fun i : Int × Nat => [(10, .int .i64 i.1), (11, .int .i64 z166), (9, .bool false), (8, .int .i64 0), (0, .slice A0 l0.length c0), (1, .int .i64 p1)]) I194 (fun i => i.2) (z165, (Int.toNat (p2 - z165)) + 1) ⟨rfl, rfl, rfl, rfl, rfl, rfl, trivial⟩ (dm196.2 ⟨H190, by omega, by omega, by omega, rfl⟩) ?_
 rintro ⟨z187, f189⟩ w191 hf193
 show Wp _ _ _ [(10, .int .i64 z187), (11, .int .i64 z166), (9, .bool false), (8, .int .i64 0), (0, .slice A0 l0.length c0), (1, .int .i64 p1)] _ _
 obtain ⟨H192, hi198, hi199, hi200, hq197⟩ := dm196.1 hf193
 obtain ⟨f201, hf202⟩ : ∃ q, f189 = q + 1 := ⟨f189 - 1, by omega⟩
 subst hf202
 refine Wp.seq (Wp.seq ?_)
 have H204 := H192.drew
 refine Wp.drawnX [] (fun W => ∃ L', Own w D W ([row A0 l0.length c0 (List.flatMap (eN .u64) l167) 30 1] ++ L')) (by kernel_rfl) (by kernel_rfl) (NoP.then (NoP.then (NoP.then (NoP.block (NoP.then (NoP.block (NoP.then (NoP.block (NoP.then NoP.base))))))))) ⟨_, H204⟩ ?_
 revert H204
 generalize World.drew w191 = w203
 intro H204
 refine GX.take (v := .int .i64 z187) (rs := []) 0 rfl (by kernel_rfl) (fun _ _ => Yl.move rfl) (GX.take (v := .int .i64 z166) (rs := []) 1 rfl (by kernel_rfl) (fun _ _ => Yl.move rfl) (GX.take (v := .bool (decide (z187 ≤ z166))) (rs := []) 2 rfl (by kernel_rfl) (fun _ _ => yk) (GX.take (v := .bool (decide (z187 ≤ z166))) (rs := []) 3 rfl (by kernel_rfl) (fun _ _ => Yl.move rfl) ?_)))
 by_cases h205 : z187 ≤ z166
 refine GX.takeG (v := .slice A0 l0.length c0) (rs := []) 4 rfl rfl rfl (dT h205) (by kernel_rfl) (fun _ _ => Yl.move rfl) (GX.takeG (v := .int .i64 ((Int.toNat z187 : Nat) : Int)) (rs := []) 5 rfl rfl rfl (dT h205) (by kernel_rfl) (fun _ _ => Yl.int (e := z187) (Yl.move rfl) (by omega)) ?_)
 obtain ⟨x206, hx207⟩ := at_of (ls := l167) (i := Int.toNat z187) (by first | omega | (simp; done) | (simp; omega))
 refine GX.takeG (v := .pointer (some ⟨ab A0, ao A0 + (Int.toNat z187) * 1, none⟩)) (rs := []) 6 rfl rfl rfl (dT h205) (by kernel_rfl) (fun _ ⟨_, H9⟩ => Yl.indexAddr (El37) rfl rfl ((H9.rds (i := 0) rfl).addr (i := Int.toNat z187) (by omega)) (by omega)) (GX.takeG (v := .int .u64 ((x206 : Nat) : Int)) (rs := []) 7 rfl rfl rfl (dT h205) (by kernel_rfl) (fun _ ⟨_, H9⟩ => Yl.load rfl (Lds.one Try.isAgg30 (((H9.rds (i := 0) rfl).elem eN_len hx207 (by decide)).at_ (k := 0) rfl))) (GX.takeG (v := .slice A0 l0.length c0) (rs := []) 8 rfl rfl rfl (dT h205) (by kernel_rfl) (fun _ _ => Yl.move rfl) (GX.takeG (v := .int .i64 ((Int.toNat p1 : Nat) : Int)) (rs := []) 9 rfl rfl rfl (dT h205) (by kernel_rfl) (fun _ _ => Yl.int (e := p1) (Yl.move rfl) (by omega)) ?_)))
 obtain ⟨x208, hx209⟩ := at_of (ls := l167) (i := Int.toNat p1) (by first | omega | (simp; done) | (simp; omega))
 refine GX.takeG (v := .pointer (some ⟨ab A0, ao A0 + (Int.toNat p1) * 1, none⟩)) (rs := []) 10 rfl rfl rfl (dT h205) (by kernel_rfl) (fun _ ⟨_, H9⟩ => Yl.indexAddr (El37) rfl rfl ((H9.rds (i := 0) rfl).addr (i := Int.toNat p1) (by omega)) (by omega)) (GX.takeG (v := .int .u64 ((x208 : Nat) : Int)) (rs := []) 11 rfl rfl rfl (dT h205) (by kernel_rfl) (fun _ ⟨_, H9⟩ => Yl.load rfl (Lds.one Try.isAgg30 (((H9.rds (i := 0) rfl).elem eN_len hx209 (by decide)).at_ (k := 0) rfl))) ?_)
 obtain ⟨r215, hr216⟩ : ∃ q, cmp_Less_uint64 x206 x208 = q := ⟨_, rfl⟩
 obtain ⟨D210, HP211, ro212, bk213, rr214⟩ := Own.enter0 H204
 refine GX.doG 12 rfl rfl rfl (dT h205) (by kernel_rfl) (Do.call Try.call78 rfl (cmp_Less_uint64_ok _ _ x206 x208 r215 HP211 hr216) ?_)
 rintro _ w217 ⟨rfl, HQ218⟩
 have H219 := bk213 _ _ HQ218
 refine ⟨.inr ⟨_, H219⟩, ?_⟩
 refine GX.take (v := .bool r215) (rs := []) 13 rfl (by kernel_rfl) (fun _ _ => Yl.pickT rfl (dT h205) rfl) (GX.done (by kernel_rfl) (Fin.then ?_))
 rcases Bool.eq_false_or_eq_true (r215) with h220 | h220
 refine jT h220 (sk (bo (Wp.region (Mz rfl (fw (.int .i64 (z187 + 1)) (Yl.int (e := IntKind.i64.wrap (z187 + 1)) yk (by rw [IntWalk.i64_in _ (by omega)])) (Az rfl (WL.nil (bN ?_))))))))
 have H221 := H219.pk [0]
 exact Fin.round (z187 + 1, f201) ⟨rfl, rfl, rfl, rfl, rfl, rfl, trivial⟩ (dm196.2 ⟨H221, by omega, by omega, by omega, et (hq197) (et (ip h205) (et (bnd_of (getD_of hx207)) (et (bnd_of (getD_of hx209)) (et (bnd_of hr216) (ip h220)))))⟩) (by show f201 < f201 + 1; omega)
 refine jF h220 (Wp.exit (Fin.thenX (Fin.thenX (Fin.blockX ?_))))
 have H222 := H219.pk [0]
 exact Fin.join z187 ⟨rfl, rfl, rfl, rfl, rfl, rfl, trivial⟩ (dm186.2 ⟨H222, by omega, by omega, by omega, bnd_of (et (hq197) (et (ip h205) (et (bnd_of (getD_of hx207)) (et (bnd_of (getD_of hx209)) (et (bnd_of hr216) (ifF h220))))))⟩)
 refine GX.skipG (rs := []) 4 rfl rfl rfl (dF h205) (by kernel_rfl) (GX.skipG (rs := []) 5 rfl rfl rfl (dF h205) (by kernel_rfl) (GX.skipG (rs := []) 6 rfl rfl rfl (dF h205) (by kernel_rfl) (GX.skipG (rs := []) 7 rfl rfl rfl (dF h205) (by kernel_rfl) (GX.skipG (rs := []) 8 rfl rfl rfl (dF h205) (by kernel_rfl) (GX.skipG (rs := []) 9 rfl rfl rfl (dF h205) (by kernel_rfl) (GX.skipG (rs := []) 10 rfl rfl rfl (dF h205) (by kernel_rfl) (GX.skipG (rs := []) 11 rfl rfl rfl (dF h205) (by kernel_rfl) (GX.skipG (rs := []) 12 rfl rfl rfl (dF h205) (by kernel_rfl) (GX.take (v := .bool false) (rs := []) 13 rfl (by kernel_rfl) (fun _ _ => Yl.pickF rfl (dF h205) rfl) (GX.done (by kernel_rfl) (Fin.then (jf (Wp.exit (Fin.thenX (Fin.thenX (Fin.blockX ?_))))))))))))))))
 have H223 := H204.pk [0]
 exact Fin.join z187 ⟨rfl, rfl, rfl, rfl, rfl, rfl, trivial⟩ (dm186.2 ⟨H223, by omega, by omega, by omega, bnd_of (et (hq197) (iN h205))⟩)
 rintro z183 w224 hf226
 show Wp _ _ _ [(10, .int .i64 z183), (11, .int .i64 z166), (9, .bool false), (8, .int .i64 0), (0, .slice A0 l0.length c0), (1, .int .i64 p1)] _ _
 obtain ⟨H225, hi228, hi229, hi230, hj227⟩ := dm186.1 hf226
 refine Wp.seq ?_
 obtain ⟨I232, hI233⟩ : ∃ q : Int → World → Prop, q = fun (i : Int) w' => Own w D w' [row A0 l0.length c0 (List.flatMap (eN .u64) l167) 30 1] ∧ ((-9223372036854775808 ≤ i ∧ i ≤ 9223372036854775807) ∧ (p1 + 1 ≤ z183 ∧ z183 ≤ p2 ∧ p1 ≤ i ∧ i < p2 ∧ z183 ≤ i + 2) ∧ i ≤ z166 ∧ (bnd (slices_partitionOrdered_uint64_L4 p1 l167 z183 ((Int.toNat (z166 - p1)) + 1) z166) fun sLrbbbbJaJafbbbbLsJaJjL => sLrbbbbJaJafbbbbLsJaJjL) = i) := ⟨_, rfl⟩
 have dm234 : ∀ {z231 : Int} {w' : World}, I232 z231 w' ↔ Own w D w' [row A0 l0.length c0 (List.flatMap (eN .u64) l167) 30 1] ∧ (-9223372036854775808 ≤ z231 ∧ z231 ≤ 9223372036854775807) ∧ (p1 + 1 ≤ z183 ∧ z183 ≤ p2 ∧ p1 ≤ z231 ∧ z231 < p2 ∧ z183 ≤ z231 + 2) ∧ z231 ≤ z166 ∧ (bnd (slices_partitionOrdered_uint64_L4 p1 l167 z183 ((Int.toNat (z166 - p1)) + 1) z166) fun sLrbbbbJaJafbbbbLsJaJjL => sLrbbbbJaJafbbbbLsJaJjL) = z231 := by intros; subst hI233; exact Iff.rfl
 refine Wp.joinT (fun i : Int => [(11, .int .i64 i), (10, .int .i64 z183), (9, .bool false), (8, .int .i64 0), (0, .slice A0 l0.length c0), (1, .int .i64 p1)]) I232 ?_ ?_
 refine bo ?_
 have H238 := H225.pk [0]
 obtain ⟨I242, hI243⟩ : ∃ q : (Int × Nat) → World → Prop, q = fun (i : Int × Nat) w' => Own w D w' [row A0 l0.length c0 (List.flatMap (eN .u64) l167) 30 1] ∧ ((p1 + 1 ≤ z183 ∧ z183 ≤ p2 ∧ p1 ≤ i.1 ∧ i.1 < p2 ∧ z183 ≤ i.1 + 2) ∧ i.1 ≤ z166 ∧ Int.toNat (i.1 - p1) < i.2 ∧ slices_partitionOrdered_uint64_L4 p1 l167 z183 ((Int.toNat (z166 - p1)) + 1) z166 = slices_partitionOrdered_uint64_L4 p1 l167 z183 i.2 i.1) := ⟨_, rfl⟩
 have dm244 : ∀ {z235 : Int} {f237 : Nat} {w' : World}, I242 (z235, f237) w' ↔ Own w D w' [row A0 l0.length c0 (List.flatMap (eN .u64) l167) 30 1] ∧ (p1 + 1 ≤ z183 ∧ z183 ≤ p2 ∧ p1 ≤ z235 ∧ z235 < p2 ∧ z183 ≤ z235 + 2) ∧ z235 ≤ z166 ∧ Int.toNat (z235 - p1) < f237 ∧ slices_partitionOrdered_uint64_L4 p1 l167 z183 ((Int.toNat (z166 - p1)) + 1) z166 = slices_partitionOrdered_uint64_L4 p1 l167 z183 f237 z235 := by intros; subst hI243; exact Iff.rfl
 refine Wp.loop (fun i : Int × Nat => [(11, .int .i64 i.1), (10, .int .i64 z183), (9, .bool false), (8, .int .i64 0), (0, .slice A0 l0.length c0), (1, .int .i64 p1)]) I242 (fun i => i.2) (z166, (Int.toNat (z166 - p1)) + 1) ⟨rfl, rfl, rfl, rfl, rfl, rfl, trivial⟩ (dm244.2 ⟨H238, by omega, by omega, by omega, rfl⟩) ?_
 rintro ⟨z235, f237⟩ w239 hf241
 show Wp _ _ _ [(11, .int .i64 z235), (10, .int .i64 z183), (9, .bool false), (8, .int .i64 0), (0, .slice A0 l0.length c0), (1, .int .i64 p1)] _ _
 obtain ⟨H240, hi246, hi247, hi248, hq245⟩ := dm244.1 hf241
 obtain ⟨f249, hf250⟩ : ∃ q, f237 = q + 1 := ⟨f237 - 1, by omega⟩
 subst hf250
 refine Wp.seq (Wp.seq ?_)
 have H252 := H240.drew
 refine Wp.drawnX [] (fun W => ∃ L', Own w D W ([row A0 l0.length c0 (List.flatMap (eN .u64) l167) 30 1] ++ L')) (by kernel_rfl) (by kernel_rfl) (NoP.then (NoP.then (NoP.then (NoP.block (NoP.then (NoP.block (NoP.then (NoP.block (NoP.then NoP.base))))))))) ⟨_, H252⟩ ?_
 revert H252
 generalize World.drew w239 = w251
 intro H252
 refine GX.take (v := .int .i64 z183) (rs := []) 0 rfl (by kernel_rfl) (fun _ _ => Yl.move rfl) (GX.take (v := .int .i64 z235) (rs := []) 1 rfl (by kernel_rfl) (fun _ _ => Yl.move rfl) (GX.take (v := .bool (decide (z183 ≤ z235))) (rs := []) 2 rfl (by kernel_rfl) (fun _ _ => yk) (GX.take (v := .bool (decide (z183 ≤ z235))) (rs := []) 3 rfl (by kernel_rfl) (fun _ _ => Yl.move rfl) ?_)))
 by_cases h253 : z183 ≤ z235
 refine GX.takeG (v := .slice A0 l0.length c0) (rs := []) 4 rfl rfl rfl (dT h253) (by kernel_rfl) (fun _ _ => Yl.move rfl) (GX.takeG (v := .int .i64 ((Int.toNat z235 : Nat) : Int)) (rs := []) 5 rfl rfl rfl (dT h253) (by kernel_rfl) (fun _ _ => Yl.int (e := z235) (Yl.move rfl) (by omega)) ?_)
 obtain ⟨x254, hx255⟩ := at_of (ls := l167) (i := Int.toNat z235) (by first | omega | (simp; done) | (simp; omega))
 refine GX.takeG (v := .pointer (some ⟨ab A0, ao A0 + (Int.toNat z235) * 1, none⟩)) (rs := []) 6 rfl rfl rfl (dT h253) (by kernel_rfl) (fun _ ⟨_, H9⟩ => Yl.indexAddr (El37) rfl rfl ((H9.rds (i := 0) rfl).addr (i := Int.toNat z235) (by omega)) (by omega)) (GX.takeG (v := .int .u64 ((x254 : Nat) : Int)) (rs := []) 7 rfl rfl rfl (dT h253) (by kernel_rfl) (fun _ ⟨_, H9⟩ => Yl.load rfl (Lds.one Try.isAgg30 (((H9.rds (i := 0) rfl).elem eN_len hx255 (by decide)).at_ (k := 0) rfl))) (GX.takeG (v := .slice A0 l0.length c0) (rs := []) 8 rfl rfl rfl (dT h253) (by kernel_rfl) (fun _ _ => Yl.move rfl) (GX.takeG (v := .int .i64 ((Int.toNat p1 : Nat) : Int)) (rs := []) 9 rfl rfl rfl (dT h253) (by kernel_rfl) (fun _ _ => Yl.int (e := p1) (Yl.move rfl) (by omega)) ?_)))
 obtain ⟨x256, hx257⟩ := at_of (ls := l167) (i := Int.toNat p1) (by first | omega | (simp; done) | (simp; omega))
 refine GX.takeG (v := .pointer (some ⟨ab A0, ao A0 + (Int.toNat p1) * 1, none⟩)) (rs := []) 10 rfl rfl rfl (dT h253) (by kernel_rfl) (fun _ ⟨_, H9⟩ => Yl.indexAddr (El37) rfl rfl ((H9.rds (i := 0) rfl).addr (i := Int.toNat p1) (by omega)) (by omega)) (GX.takeG (v := .int .u64 ((x256 : Nat) : Int)) (rs := []) 11 rfl rfl rfl (dT h253) (by kernel_rfl) (fun _ ⟨_, H9⟩ => Yl.load rfl (Lds.one Try.isAgg30 (((H9.rds (i := 0) rfl).elem eN_len hx257 (by decide)).at_ (k := 0) rfl))) ?_)
 obtain ⟨r263, hr264⟩ : ∃ q, cmp_Less_uint64 x254 x256 = q := ⟨_, rfl⟩
 obtain ⟨D258, HP259, ro260, bk261, rr262⟩ := Own.enter0 H252
 refine GX.doG 12 rfl rfl rfl (dT h253) (by kernel_rfl) (Do.call Try.call78 rfl (cmp_Less_uint64_ok _ _ x254 x256 r263 HP259 hr264) ?_)
 rintro _ w265 ⟨rfl, HQ266⟩
 have H267 := bk261 _ _ HQ266
 refine ⟨.inr ⟨_, H267⟩, ?_⟩
 refine GX.takeG (v := .bool (!r263)) (rs := []) 13 rfl rfl rfl (dT h253) (by kernel_rfl) (fun _ _ => yk) (GX.take (v := .bool (!r263)) (rs := []) 14 rfl (by kernel_rfl) (fun _ _ => Yl.pickT rfl (dT h253) rfl) (GX.done (by kernel_rfl) (Fin.then ?_)))
 rcases Bool.eq_false_or_eq_true (r263) with h268 | h268
 refine jF (cn h268) (Wp.exit (Fin.thenX (Fin.thenX (Fin.blockX ?_))))
 have H269 := H267.pk [0]
 exact Fin.join z235 ⟨rfl, rfl, rfl, rfl, rfl, rfl, trivial⟩ (dm234.2 ⟨H269, by omega, by omega, by omega, bnd_of (et (hq245) (et (ip h253) (et (bnd_of (getD_of hx255)) (et (bnd_of (getD_of hx257)) (et (bnd_of hr264) (ip h268))))))⟩)
 refine jT (cn h268) (sk (bo (Wp.region (Mz rfl (fw (.int .i64 (z235 - 1)) (Yl.int (e := IntKind.i64.wrap (z235 - 1)) yk (by rw [IntWalk.i64_in _ (by omega)])) (Az rfl (WL.nil (bN ?_))))))))
 have H270 := H267.pk [0]
 exact Fin.round (z235 - 1, f249) ⟨rfl, rfl, rfl, rfl, rfl, rfl, trivial⟩ (dm244.2 ⟨H270, by omega, by omega, by omega, et (hq245) (et (ip h253) (et (bnd_of (getD_of hx255)) (et (bnd_of (getD_of hx257)) (et (bnd_of hr264) (ifF h268)))))⟩) (by show f249 < f249 + 1; omega)
 refine GX.skipG (rs := []) 4 rfl rfl rfl (dF h253) (by kernel_rfl) (GX.skipG (rs := []) 5 rfl rfl rfl (dF h253) (by kernel_rfl) (GX.skipG (rs := []) 6 rfl rfl rfl (dF h253) (by kernel_rfl) (GX.skipG (rs := []) 7 rfl rfl rfl (dF h253) (by kernel_rfl) (GX.skipG (rs := []) 8 rfl rfl rfl (dF h253) (by kernel_rfl) (GX.skipG (rs := []) 9 rfl rfl rfl (dF h253) (by kernel_rfl) (GX.skipG (rs := []) 10 rfl rfl rfl (dF h253) (by kernel_rfl) (GX.skipG (rs := []) 11 rfl rfl rfl (dF h253) (by kernel_rfl) (GX.skipG (rs := []) 12 rfl rfl rfl (dF h253) (by kernel_rfl) (GX.skipG (rs := []) 13 rfl rfl rfl (dF h253) (by kernel_rfl) (GX.take (v := .bool false) (rs := []) 14 rfl (by kernel_rfl) (fun _ _ => Yl.pickF rfl (dF h253) rfl) (GX.done (by kernel_rfl) (Fin.then (jf (Wp.exit (Fin.thenX (Fin.thenX (Fin.blockX ?_)))))))))))))))))
 have H271 := H252.pk [0]
 exact Fin.join z235 ⟨rfl, rfl, rfl, rfl, rfl, rfl, trivial⟩ (dm234.2 ⟨H271, by omega, by omega, by omega, bnd_of (et (hq245) (iN h253))⟩)
 rintro z231 w272 hf274
 show Wp _ _ _ [(11, .int .i64 z231), (10, .int .i64 z183), (9, .bool false), (8, .int .i64 0), (0, .slice A0 l0.length c0), (1, .int .i64 p1)] _ _
 obtain ⟨H273, hi276, hi277, hi278, hj275⟩ := dm234.1 hf274
 refine Wp.seq (sr (Mz rfl (Mz rfl (Kz (.bool (decide (z183 > z231))) (nt ?_)))))
 by_cases h279 : z183 > z231
 refine jT (dT h279) (Wp.exit (Fin.thenX (Fin.blockO rfl ?_)))
 have hL280 : slices_partitionOrdered_uint64_L2 p1 p2 ((Int.toNat ((z84 - 1) - (z37 + 1) + 3)) + 1) (z37 + 1) (z84 - 1) (List.set (List.set (List.set (List.set l0 (Int.toNat p1) x23) (Int.toNat p3) x25) (Int.toNat z37) x151) (Int.toNat z84) x153) = (l167, z231) := et (hq177) (et (bnd_of hj227) (et (bnd_of hj275) (ip h279)))
 refine Fin.thenX (Fin.blockX (Fin.then (Wp.seq ?_)))
 have H282 := H273.drew
 refine Wp.drawnX [13, 15] (fun W => ∃ L', Own w D W ([row A0 l0.length c0 (List.flatMap (eN .u64) l167) 30 1] ++ L')) (by kernel_rfl) (by kernel_rfl) (NoP.then NoP.base) ⟨_, H282⟩ ?_
 revert H282
 generalize World.drew w272 = w281
 intro H282
 refine GX.take (v := .slice A0 l0.length c0) (rs := [[], []]) 0 rfl (by kernel_rfl) (fun _ _ => Yl.move rfl) (GX.take (v := .int .i64 ((Int.toNat z231 : Nat) : Int)) (rs := [[], []]) 1 rfl (by kernel_rfl) (fun _ _ => Yl.int (e := z231) (Yl.move rfl) (by omega)) (GX.takeA (v := .slice A0 l0.length c0) 2 rfl (by kernel_rfl) (fun _ => Yl.move rfl) (GX.takeA (v := .int .i64 ((Int.toNat p1 : Nat) : Int)) 3 rfl (by kernel_rfl) (fun _ => Yl.int (e := p1) (Yl.move rfl) (by omega)) (GX.take (v := .slice A0 l0.length c0) (rs := [[], []]) 4 rfl (by kernel_rfl) (fun _ _ => Yl.move rfl) (GX.take (v := .int .i64 ((Int.toNat p1 : Nat) : Int)) (rs := [[], []]) 5 rfl (by kernel_rfl) (fun _ _ => Yl.int (e := p1) (Yl.move rfl) (by omega)) ?_)))))
 obtain ⟨x283, hx284⟩ := at_of (ls := l167) (i := Int.toNat p1) (by first | omega | (simp; done) | (simp; omega))
 refine GX.take (v := .pointer (some ⟨ab A0, ao A0 + (Int.toNat p1) * 1, none⟩)) (rs := [[], []]) 6 rfl (by kernel_rfl) (fun _ ⟨_, H9⟩ => Yl.indexAddr (El37) rfl rfl ((H9.rds (i := 0) rfl).addr (i := Int.toNat p1) (by omega)) (by omega)) (GX.take (v := .int .u64 ((x283 : Nat) : Int)) (rs := [[], []]) 7 rfl (by kernel_rfl) (fun _ ⟨_, H9⟩ => Yl.load rfl (Lds.one Try.isAgg30 (((H9.rds (i := 0) rfl).elem eN_len hx284 (by decide)).at_ (k := 0) rfl))) (GX.take (v := .slice A0 l0.length c0) (rs := [[11, 10], []]) 8 rfl (by kernel_rfl) (fun _ _ => Yl.move rfl) (GX.take (v := .int .i64 ((Int.toNat z231 : Nat) : Int)) (rs := [[11, 10], []]) 9 rfl (by kernel_rfl) (fun _ _ => Yl.int (e := z231) (Yl.move rfl) (by omega)) ?_)))
 obtain ⟨x285, hx286⟩ := at_of (ls := l167) (i := Int.toNat z231) (by first | omega | (simp; done) | (simp; omega))
 refine GX.take (v := .pointer (some ⟨ab A0, ao A0 + (Int.toNat z231) * 1, none⟩)) (rs := [[11], []]) 10 rfl (by kernel_rfl) (fun _ ⟨_, H9⟩ => Yl.indexAddr (El37) rfl rfl ((H9.rds (i := 0) rfl).addr (i := Int.toNat z231) (by omega)) (by omega)) (GX.take (v := .int .u64 ((x285 : Nat) : Int)) (rs := [[], []]) 11 rfl (by kernel_rfl) (fun _ ⟨_, H9⟩ => Yl.load rfl (Lds.one Try.isAgg30 (((H9.rds (i := 0) rfl).elem eN_len hx286 (by decide)).at_ (k := 0) rfl))) (GX.take (v := .pointer (some ⟨ab A0, ao A0 + (Int.toNat z231) * 1, none⟩)) (rs := [[], []]) 12 rfl (by kernel_rfl) (fun _ ⟨_, H9⟩ => Yl.indexAddr (El37) rfl rfl ((H9.rds (i := 0) rfl).addr (i := Int.toNat z231) (by omega)) (by omega)) ?_))
 refine GX.do0 13 rfl (by kernel_rfl) (Do.storeRow (vs := [.int .u64 ((x283 : Nat) : Int)]) (o := (Int.toNat z231) * 1 + 0) (q := ao A0 + (Int.toNat z231) * 1) H282 rfl (by omega) rfl Try.sizeOf30 rfl rfl (Nat.le_of_ble_eq_true rfl) (store_fits eN_len hx286 (Nat.le_of_ble_eq_true rfl)) (flat_set (y := x283) eN_len rfl (Nat.le_of_ble_eq_true rfl) hx286) ?_)
 intro w287 H288
 refine ⟨.inl (by kernel_rfl), ?_⟩
 obtain ⟨x289, hx290⟩ := at_of (ls := l167) (i := Int.toNat p1) (by first | omega | (simp; done) | (simp; omega))
 obtain ⟨x291, hx292⟩ := rds_at (ls := (List.set l167 (Int.toNat z231) x283)) (i := Int.toNat p1) eN_len (by decide) (H288.rds (i := 0) rfl) (by first | omega | (simp; done) | (simp; omega))
 refine GX.takeA (v := .pointer (some ⟨ab A0, ao A0 + (Int.toNat p1) * 1, none⟩)) 14 rfl (by kernel_rfl) (fun _ => Yl.indexAddr (El37) rfl rfl ((H288.rds (i := 0) rfl).addr (i := Int.toNat p1) (by omega)) (by omega)) ?_
 obtain ⟨x293, hx294⟩ := at_of (ls := (List.set l167 (Int.toNat z231) x283)) (i := Int.toNat p1) (by first | omega | (simp; done) | (simp; omega))
 refine GX.do0 15 rfl (by kernel_rfl) (Do.storeRow (vs := [.int .u64 ((x285 : Nat) : Int)]) (o := (Int.toNat p1) * 1 + 0) (q := ao A0 + (Int.toNat p1) * 1) H288 rfl (by omega) rfl Try.sizeOf30 rfl rfl (Nat.le_of_ble_eq_true rfl) (store_fits eN_len hx294 (Nat.le_of_ble_eq_true rfl)) (flat_set (y := x285) eN_len rfl (Nat.le_of_ble_eq_true rfl) hx294) ?_)
 intro w295 H296
 refine ⟨.inl (by kernel_rfl), ?_⟩
 refine GX.done (by kernel_rfl) (Fin.then (sr (Mz rfl (Az rfl (An rfl (rt (Fin.res (res2 rfl rfl rfl) ?_)))))))
 have H297 := H296.pk [0]
 have e : slices_partitionOrdered_uint64 l0 p1 p2 p3 = (z231, false, (List.set (List.set l167 (Int.toNat z231) x283) (Int.toNat p1) x285)) := et (bnd_of (getD_of hx24)) (et (bnd_of (getD_of hx26)) (et (bnd_of hj80) (et (bnd_of hj127) (et (iN h131) (et (bnd_of (getD_of hx152)) (et (bnd_of (getD_of hx154)) (et (bnd_of hL280) (et (bnd_of (getD_of hx284)) (bnd_of (getD_of hx286))))))))))
 obtain ⟨rfl, rfl, rfl⟩ := pj3 (e.symm.trans hr)
 exact ⟨rfl, H297, (by first | rfl | omega | (simp only [List.length_set] <;> omega)), (by omega)⟩
 refine jF (dF h279) (sk (Wp.seq ?_))
 have H299 := H273.drew
 refine Wp.drawnX [13, 15] (fun W => ∃ L', Own w D W ([row A0 l0.length c0 (List.flatMap (eN .u64) l167) 30 1] ++ L')) (by kernel_rfl) (by kernel_rfl) (NoP.then (NoP.block (NoP.then (NoP.block (NoP.then NoP.base))))) ⟨_, H299⟩ ?_
 revert H299
 generalize World.drew w272 = w298
 intro H299
 refine GX.take (v := .slice A0 l0.length c0) (rs := [[], []]) 0 rfl (by kernel_rfl) (fun _ _ => Yl.move rfl) (GX.take (v := .int .i64 ((Int.toNat z183 : Nat) : Int)) (rs := [[], []]) 1 rfl (by kernel_rfl) (fun _ _ => Yl.int (e := z183) (Yl.move rfl) (by omega)) (GX.takeA (v := .slice A0 l0.length c0) 2 rfl (by kernel_rfl) (fun _ => Yl.move rfl) (GX.takeA (v := .int .i64 ((Int.toNat z231 : Nat) : Int)) 3 rfl (by kernel_rfl) (fun _ => Yl.int (e := z231) (Yl.move rfl) (by omega)) (GX.take (v := .slice A0 l0.length c0) (rs := [[], []]) 4 rfl (by kernel_rfl) (fun _ _ => Yl.move rfl) (GX.take (v := .int .i64 ((Int.toNat z231 : Nat) : Int)) (rs := [[], []]) 5 rfl (by kernel_rfl) (fun _ _ => Yl.int (e := z231) (Yl.move rfl) (by omega)) ?_)))))
 obtain ⟨x300, hx301⟩ := at_of (ls := l167) (i := Int.toNat z231) (by first | omega | (simp; done) | (simp; omega))
 refine GX.take (v := .pointer (some ⟨ab A0, ao A0 + (Int.toNat z231) * 1, none⟩)) (rs := [[], []]) 6 rfl (by kernel_rfl) (fun _ ⟨_, H9⟩ => Yl.indexAddr (El37) rfl rfl ((H9.rds (i := 0) rfl).addr (i := Int.toNat z231) (by omega)) (by omega)) (GX.take (v := .int .u64 ((x300 : Nat) : Int)) (rs := [[], []]) 7 rfl (by kernel_rfl) (fun _ ⟨_, H9⟩ => Yl.load rfl (Lds.one Try.isAgg30 (((H9.rds (i := 0) rfl).elem eN_len hx301 (by decide)).at_ (k := 0) rfl))) (GX.take (v := .slice A0 l0.length c0) (rs := [[11, 10], []]) 8 rfl (by kernel_rfl) (fun _ _ => Yl.move rfl) (GX.take (v := .int .i64 ((Int.toNat z183 : Nat) : Int)) (rs := [[11, 10], []]) 9 rfl (by kernel_rfl) (fun _ _ => Yl.int (e := z183) (Yl.move rfl) (by omega)) ?_)))
 obtain ⟨x302, hx303⟩ := at_of (ls := l167) (i := Int.toNat z183) (by first | omega | (simp; done) | (simp; omega))
 refine GX.take (v := .pointer (some ⟨ab A0, ao A0 + (Int.toNat z183) * 1, none⟩)) (rs := [[11], []]) 10 rfl (by kernel_rfl) (fun _ ⟨_, H9⟩ => Yl.indexAddr (El37) rfl rfl ((H9.rds (i := 0) rfl).addr (i := Int.toNat z183) (by omega)) (by omega)) (GX.take (v := .int .u64 ((x302 : Nat) : Int)) (rs := [[], []]) 11 rfl (by kernel_rfl) (fun _ ⟨_, H9⟩ => Yl.load rfl (Lds.one Try.isAgg30 (((H9.rds (i := 0) rfl).elem eN_len hx303 (by decide)).at_ (k := 0) rfl))) (GX.take (v := .pointer (some ⟨ab A0, ao A0 + (Int.toNat z183) * 1, none⟩)) (rs := [[], []]) 12 rfl (by kernel_rfl) (fun _ ⟨_, H9⟩ => Yl.indexAddr (El37) rfl rfl ((H9.rds (i := 0) rfl).addr (i := Int.toNat z183) (by omega)) (by omega)) ?_))
 refine GX.do0 13 rfl (by kernel_rfl) (Do.storeRow (vs := [.int .u64 ((x300 : Nat) : Int)]) (o := (Int.toNat z183) * 1 + 0) (q := ao A0 + (Int.toNat z183) * 1) H299 rfl (by omega) rfl Try.sizeOf30 rfl rfl (Nat.le_of_ble_eq_true rfl) (store_fits eN_len hx303 (Nat.le_of_ble_eq_true rfl)) (flat_set (y := x300) eN_len rfl (Nat.le_of_ble_eq_true rfl) hx303) ?_)
 intro w304 H305
 refine ⟨.inl (by kernel_rfl), ?_⟩
 obtain ⟨x306, hx307⟩ := at_of (ls := l167) (i := Int.toNat z231) (by first | omega | (simp; done) | (simp; omega))
 obtain ⟨x308, hx309⟩ := rds_at (ls := (List.set l167 (Int.toNat z183) x300)) (i := Int.toNat z231) eN_len (by decide) (H305.rds (i := 0) rfl) (by first | omega | (simp; done) | (simp; omega))
 refine GX.takeA (v := .pointer (some ⟨ab A0, ao A0 + (Int.toNat z231) * 1, none⟩)) 14 rfl (by kernel_rfl) (fun _ => Yl.indexAddr (El37) rfl rfl ((H305.rds (i := 0) rfl).addr (i := Int.toNat z231) (by omega)) (by omega)) ?_
 obtain ⟨x310, hx311⟩ := at_of (ls := (List.set l167 (Int.toNat z183) x300)) (i := Int.toNat z231) (by first | omega | (simp; done) | (simp; omega))
 refine GX.do0 15 rfl (by kernel_rfl) (Do.storeRow (vs := [.int .u64 ((x302 : Nat) : Int)]) (o := (Int.toNat z231) * 1 + 0) (q := ao A0 + (Int.toNat z231) * 1) H305 rfl (by omega) rfl Try.sizeOf30 rfl rfl (Nat.le_of_ble_eq_true rfl) (store_fits eN_len hx311 (Nat.le_of_ble_eq_true rfl)) (flat_set (y := x302) eN_len rfl (Nat.le_of_ble_eq_true rfl) hx311) ?_)
 intro w312 H313
 refine ⟨.inl (by kernel_rfl), ?_⟩
 refine GX.done (by kernel_rfl) (Fin.then (sr (Mz rfl (fw (.int .i64 (z183 + 1)) (Yl.int (e := IntKind.i64.wrap (z183 + 1)) yk (by rw [IntWalk.i64_in _ (by omega)])) (An rfl (Wp.region (Mz rfl (fw (.int .i64 (z231 - 1)) (Yl.int (e := IntKind.i64.wrap (z231 - 1)) yk (by rw [IntWalk.i64_in _ (by omega)])) (Az rfl (WL.nil (bN ?_)))))))))))
 have H314 := H313.pk [0]
 exact Fin.round (z183 + 1, z231 - 1, (List.set (List.set l167 (Int.toNat z183) x300) (Int.toNat z231) x302), f181) ⟨rfl, rfl, rfl, rfl, rfl, rfl, trivial⟩ (dm176.2 ⟨H314, by first | omega | (simp only [List.length_set] <;> omega) | (simp only [List.length_replicate]), by omega, by omega, Eq.trans (hq177) (Eq.trans (bnd_of hj227) (Eq.trans (bnd_of hj275) (Eq.trans (if_neg h279) (Eq.trans (bnd_of (getD_of hx301)) (bnd_of (getD_of hx303))))))⟩) (by show f181 < f181 + 1; omega)
def slices_partitionEqualOrdered_uint64_L1 (p1 : Int) (z38 : Int) (l39 : List Nat) : Nat → Int → Int
  | 0, z59 => default
  | q60 + 1, z59 => if z59 ≤ z38 then bnd (List.getD l39 (Int.toNat p1) default) fun yx78 => bnd (List.getD l39 (Int.toNat z59) default) fun yx80 => bnd (cmp_Less_uint64 yx78 yx80) fun yr87 => if yr87 = true then z59 else slices_partitionEqualOrdered_uint64_L1 p1 z38 l39 q60 (z59 + 1) else z59
def slices_partitionEqualOrdered_uint64_L2 (p1 : Int) (l39 : List Nat) (z55 : Int) : Nat → Int → Int
  | 0, z107 => default
  | q108 + 1, z107 => if z55 ≤ z107 then bnd (List.getD l39 (Int.toNat p1) default) fun yx126 => bnd (List.getD l39 (Int.toNat z107) default) fun yx128 => bnd (cmp_Less_uint64 yx126 yx128) fun yr135 => if yr135 = true then slices_partitionEqualOrdered_uint64_L2 p1 l39 z55 q108 (z107 - 1) else z107 else z107
def slices_partitionEqualOrdered_uint64_L0 (p1 : Int) (p2 : Int) : Nat → Int → Int → List Nat → (List Nat) × Int
  | 0, z37, z38, l39 => default
  | q40 + 1, z37, z38, l39 => bnd (bnd (slices_partitionEqualOrdered_uint64_L1 p1 z38 l39 ((Int.toNat (p2 - z37)) + 1) z37) fun sLrbbbbLsJjL => sLrbbbbLsJjL) fun sJrbbbbLsJ => bnd (bnd (slices_partitionEqualOrdered_uint64_L2 p1 l39 sJrbbbbLsJ ((Int.toNat (z38 - p1)) + 1) z38) fun sLrbbbbLsJaJjL => sLrbbbbLsJaJjL) fun sJrbbbbLsJaJ => if sJrbbbbLsJ > sJrbbbbLsJaJ then (l39, sJrbbbbLsJ) else bnd (List.getD l39 (Int.toNat sJrbbbbLsJaJ) default) fun yx156 => bnd (List.getD l39 (Int.toNat sJrbbbbLsJ) default) fun yx158 => slices_partitionEqualOrdered_uint64_L0 p1 p2 q40 (sJrbbbbLsJ + 1) (sJrbbbbLsJaJ - 1) (List.set (List.set l39 (Int.toNat sJrbbbbLsJ) yx156) (Int.toNat sJrbbbbLsJaJ) yx158)
def slices_partitionEqualOrdered_uint64 (l0 : List Nat) (p1 : Int) (p2 : Int) (p3 : Int) : Int × (List Nat) :=
 bnd (List.getD l0 (Int.toNat p3) default) fun yx23 => bnd (List.getD l0 (Int.toNat p1) default) fun yx25 => bnd (slices_partitionEqualOrdered_uint64_L0 p1 p2 ((Int.toNat ((p2 - 1) - (p1 + 1) + 3)) + 1) (p1 + 1) (p2 - 1) (List.set (List.set l0 (Int.toNat p1) yx23) (Int.toNat p3) yx25)) fun sLrbbbbL => (sLrbbbbL.2, sLrbbbbL.1)
set_option maxRecDepth 100000 in
theorem slices_partitionEqualOrdered_uint64_ok (w : World) (D : Nat → Prop) (A0 : Option Addr) (n0 c0 : Nat) (l0 : List Nat) (p1 : Int) (p2 : Int) (p3 : Int) (r0 : Int) (r1 : List Nat) (H : Own w D w [row A0 n0 c0 (List.flatMap (eN .u64) l0) 30 1]) (hn0 : n0 = l0.length) (hl0 : l0.length * 8 ≤ 211106232532992) (hh0 : 0 ≤ p1 ∧ p1 ≤ p2 ∧ p2 ≤ ((l0.length : Nat) : Int)) (hh1 : p1 ≤ p3 ∧ p3 < p2) (hr : slices_partitionEqualOrdered_uint64 l0 p1 p2 p3 = (r0, r1)) :
    Calls Try.prog 79 #[.slice A0 n0 c0, .int .i64 p1, .int .i64 p2, .int .i64 p3] w (Ret fun v w' => v = .int .i64 r0 ∧ Own w D w' [row A0 n0 c0 (List.flatMap (eN .u64) r1) 30 1] ∧ (r1.length = l0.length) ∧ (p1 < r0 ∧ r0 ≤ p2)) := by
 subst hn0
 have hc0 := H.rowC (i := 0) rfl
 refine Calls.body (args := [.slice A0 l0.length c0, .int .i64 p1, .int .i64 p2, .int .i64 p3]) Try.func79 rfl rfl rfl ?_
 show Wp _ _ _ [(0, .slice A0 l0.length c0), (1, .int .i64 p1), (2, .int .i64 p2), (3, .int .i64 p3)] _ _
 refine sr (An rfl (Wp.seq ?_))
 have H22 := H.drew
 refine Wp.drawnX [13, 15] (fun W => ∃ L', Own w D W ([row A0 l0.length c0 (List.flatMap (eN .u64) l0) 30 1] ++ L')) (by kernel_rfl) (by kernel_rfl) (NoP.then NoP.base) ⟨_, H22⟩ ?_
 revert H22
 generalize World.drew w = w21
 intro H22
 refine GX.take (v := .slice A0 l0.length c0) (rs := [[], []]) 0 rfl (by kernel_rfl) (fun _ _ => Yl.move rfl) (GX.take (v := .int .i64 ((Int.toNat p1 : Nat) : Int)) (rs := [[], []]) 1 rfl (by kernel_rfl) (fun _ _ => Yl.int (e := p1) (Yl.move rfl) (by omega)) (GX.takeA (v := .slice A0 l0.length c0) 2 rfl (by kernel_rfl) (fun _ => Yl.move rfl) (GX.takeA (v := .int .i64 ((Int.toNat p3 : Nat) : Int)) 3 rfl (by kernel_rfl) (fun _ => Yl.int (e := p3) (Yl.move rfl) (by omega)) (GX.take (v := .slice A0 l0.length c0) (rs := [[], []]) 4 rfl (by kernel_rfl) (fun _ _ => Yl.move rfl) (GX.take (v := .int .i64 ((Int.toNat p3 : Nat) : Int)) (rs := [[], []]) 5 rfl (by kernel_rfl) (fun _ _ => Yl.int (e := p3) (Yl.move rfl) (by omega)) ?_)))))
 obtain ⟨x23, hx24⟩ := at_of (ls := l0) (i := Int.toNat p3) (by first | omega | (simp; done) | (simp; omega))
 refine GX.take (v := .pointer (some ⟨ab A0, ao A0 + (Int.toNat p3) * 1, none⟩)) (rs := [[], []]) 6 rfl (by kernel_rfl) (fun _ ⟨_, H9⟩ => Yl.indexAddr (El37) rfl rfl ((H9.rds (i := 0) rfl).addr (i := Int.toNat p3) (by omega)) (by omega)) (GX.take (v := .int .u64 ((x23 : Nat) : Int)) (rs := [[], []]) 7 rfl (by kernel_rfl) (fun _ ⟨_, H9⟩ => Yl.load rfl (Lds.one Try.isAgg30 (((H9.rds (i := 0) rfl).elem eN_len hx24 (by decide)).at_ (k := 0) rfl))) (GX.take (v := .slice A0 l0.length c0) (rs := [[11, 10], []]) 8 rfl (by kernel_rfl) (fun _ _ => Yl.move rfl) (GX.take (v := .int .i64 ((Int.toNat p1 : Nat) : Int)) (rs := [[11, 10], []]) 9 rfl (by kernel_rfl) (fun _ _ => Yl.int (e := p1) (Yl.move rfl) (by omega)) ?_)))
 obtain ⟨x25, hx26⟩ := at_of (ls := l0) (i := Int.toNat p1) (by first | omega | (simp; done) | (simp; omega))
 refine GX.take (v := .pointer (some ⟨ab A0, ao A0 + (Int.toNat p1) * 1, none⟩)) (rs := [[11], []]) 10 rfl (by kernel_rfl) (fun _ ⟨_, H9⟩ => Yl.indexAddr (El37) rfl rfl ((H9.rds (i := 0) rfl).addr (i := Int.toNat p1) (by omega)) (by omega)) (GX.take (v := .int .u64 ((x25 : Nat) : Int)) (rs := [[], []]) 11 rfl (by kernel_rfl) (fun _ ⟨_, H9⟩ => Yl.load rfl (Lds.one Try.isAgg30 (((H9.rds (i := 0) rfl).elem eN_len hx26 (by decide)).at_ (k := 0) rfl))) (GX.take (v := .pointer (some ⟨ab A0, ao A0 + (Int.toNat p1) * 1, none⟩)) (rs := [[], []]) 12 rfl (by kernel_rfl) (fun _ ⟨_, H9⟩ => Yl.indexAddr (El37) rfl rfl ((H9.rds (i := 0) rfl).addr (i := Int.toNat p1) (by omega)) (by omega)) ?_))
 refine GX.do0 13 rfl (by kernel_rfl) (Do.storeRow (vs := [.int .u64 ((x23 : Nat) : Int)]) (o := (Int.toNat p1) * 1 + 0) (q := ao A0 + (Int.toNat p1) * 1) H22 rfl (by omega) rfl Try.sizeOf30 rfl rfl (Nat.le_of_ble_eq_true rfl) (store_fits eN_len hx26 (Nat.le_of_ble_eq_true rfl)) (flat_set (y := x23) eN_len rfl (Nat.le_of_ble_eq_true rfl) hx26) ?_)
 intro w27 H28
 refine ⟨.inl (by kernel_rfl), ?_⟩
 obtain ⟨x29, hx30⟩ := at_of (ls := l0) (i := Int.toNat p3) (by first | omega | (simp; done) | (simp; omega))
 obtain ⟨x31, hx32⟩ := rds_at (ls := (List.set l0 (Int.toNat p1) x23)) (i := Int.toNat p3) eN_len (by decide) (H28.rds (i := 0) rfl) (by first | omega | (simp; done) | (simp; omega))
 refine GX.takeA (v := .pointer (some ⟨ab A0, ao A0 + (Int.toNat p3) * 1, none⟩)) 14 rfl (by kernel_rfl) (fun _ => Yl.indexAddr (El37) rfl rfl ((H28.rds (i := 0) rfl).addr (i := Int.toNat p3) (by omega)) (by omega)) ?_
 obtain ⟨x33, hx34⟩ := at_of (ls := (List.set l0 (Int.toNat p1) x23)) (i := Int.toNat p3) (by first | omega | (simp; done) | (simp; omega))
 refine GX.do0 15 rfl (by kernel_rfl) (Do.storeRow (vs := [.int .u64 ((x25 : Nat) : Int)]) (o := (Int.toNat p3) * 1 + 0) (q := ao A0 + (Int.toNat p3) * 1) H28 rfl (by omega) rfl Try.sizeOf30 rfl rfl (Nat.le_of_ble_eq_true rfl) (store_fits eN_len hx34 (Nat.le_of_ble_eq_true rfl)) (flat_set (y := x25) eN_len rfl (Nat.le_of_ble_eq_true rfl) hx34) ?_)
 intro w35 H36
 refine ⟨.inl (by kernel_rfl), ?_⟩
 refine GX.done (by kernel_rfl) (Fin.then (sr (Mz rfl (fw (.int .i64 (p1 + 1)) (Yl.int (e := IntKind.i64.wrap (p1 + 1)) yk (by rw [IntWalk.i64_in _ (by omega)])) (Mz rfl (fw (.int .i64 (p2 - 1)) (Yl.int (e := IntKind.i64.wrap (p2 - 1)) yk (by rw [IntWalk.i64_in _ (by omega)])) (Az rfl (An rfl (Wp.seq (bo ?_))))))))))
 have H42 := H36.pk [0]
 obtain ⟨I46, hI47⟩ : ∃ q : (Int × Int × (List Nat) × Nat) → World → Prop, q = fun (i : Int × Int × (List Nat) × Nat) w' => Own w D w' [row A0 l0.length c0 (List.flatMap (eN .u64) i.2.2.1) 30 1] ∧ (i.2.2.1.length = l0.length ∧ (p1 + 1 ≤ i.1 ∧ i.1 ≤ p2 ∧ p1 ≤ i.2.1 ∧ i.2.1 < p2 ∧ i.1 ≤ i.2.1 + 2) ∧ Int.toNat (i.2.1 - i.1 + 3) < i.2.2.2 ∧ slices_partitionEqualOrdered_uint64_L0 p1 p2 ((Int.toNat ((p2 - 1) - (p1 + 1) + 3)) + 1) (p1 + 1) (p2 - 1) (List.set (List.set l0 (Int.toNat p1) x23) (Int.toNat p3) x25) = slices_partitionEqualOrdered_uint64_L0 p1 p2 i.2.2.2 i.1 i.2.1 i.2.2.1) := ⟨_, rfl⟩
 have dm48 : ∀ {z37 : Int} {z38 : Int} {l39 : List Nat} {f41 : Nat} {w' : World}, I46 (z37, z38, l39, f41) w' ↔ Own w D w' [row A0 l0.length c0 (List.flatMap (eN .u64) l39) 30 1] ∧ l39.length = l0.length ∧ (p1 + 1 ≤ z37 ∧ z37 ≤ p2 ∧ p1 ≤ z38 ∧ z38 < p2 ∧ z37 ≤ z38 + 2) ∧ Int.toNat (z38 - z37 + 3) < f41 ∧ slices_partitionEqualOrdered_uint64_L0 p1 p2 ((Int.toNat ((p2 - 1) - (p1 + 1) + 3)) + 1) (p1 + 1) (p2 - 1) (List.set (List.set l0 (Int.toNat p1) x23) (Int.toNat p3) x25) = slices_partitionEqualOrdered_uint64_L0 p1 p2 f41 z37 z38 l39 := by intros; subst hI47; exact Iff.rfl
 refine Wp.loop (fun i : Int × Int × (List Nat) × Nat => [(9, .int .i64 i.1), (10, .int .i64 i.2.1), (8, .int .i64 0), (0, .slice A0 l0.length c0), (1, .int .i64 p1)]) I46 (fun i => i.2.2.2) (p1 + 1, p2 - 1, (List.set (List.set l0 (Int.toNat p1) x23) (Int.toNat p3) x25), (Int.toNat ((p2 - 1) - (p1 + 1) + 3)) + 1) ⟨rfl, rfl, rfl, rfl, rfl, trivial⟩ (dm48.2 ⟨H42, by first | omega | (simp only [List.length_set] <;> omega) | (simp only [List.length_replicate]), by omega, by omega, rfl⟩) ?_
 rintro ⟨z37, z38, l39, f41⟩ w43 hf45
 show Wp _ _ _ [(9, .int .i64 z37), (10, .int .i64 z38), (8, .int .i64 0), (0, .slice A0 l0.length c0), (1, .int .i64 p1)] _ _
 obtain ⟨H44, hi50, hi51, hi52, hq49⟩ := dm48.1 hf45
 obtain ⟨f53, hf54⟩ : ∃ q, f41 = q + 1 := ⟨f41 - 1, by omega⟩
 subst hf54
 refine bo (Wp.seq ?_)
 obtain ⟨I56, hI57⟩ : ∃ q : Int → World → Prop, q = fun (i : Int) w' => Own w D w' [row A0 l0.length c0 (List.flatMap (eN .u64) l39) 30 1] ∧ ((-9223372036854775808 ≤ i ∧ i ≤ 9223372036854775807) ∧ (p1 + 1 ≤ i ∧ i ≤ p2 ∧ p1 ≤ z38 ∧ z38 < p2 ∧ i ≤ z38 + 2) ∧ z37 ≤ i ∧ (bnd (slices_partitionEqualOrdered_uint64_L1 p1 z38 l39 ((Int.toNat (p2 - z37)) + 1) z37) fun sLrbbbbLsJjL => sLrbbbbLsJjL) = i) := ⟨_, rfl⟩
 have dm58 : ∀ {z55 : Int} {w' : World}, I56 z55 w' ↔ Own w D w' [row A0 l0.length c0 (List.flatMap (eN .u64) l39) 30 1] ∧ (-9223372036854775808 ≤ z55 ∧ z55 ≤ 9223372036854775807) ∧ (p1 + 1 ≤ z55 ∧ z55 ≤ p2 ∧ p1 ≤ z38 ∧ z38 < p2 ∧ z55 ≤ z38 + 2) ∧ z37 ≤ z55 ∧ (bnd (slices_partitionEqualOrdered_uint64_L1 p1 z38 l39 ((Int.toNat (p2 - z37)) + 1) z37) fun sLrbbbbLsJjL => sLrbbbbLsJjL) = z55 := by intros; subst hI57; exact Iff.rfl
 refine Wp.joinT (fun i : Int => [(9, .int .i64 i), (10, .int .i64 z38), (8, .int .i64 0), (0, .slice A0 l0.length c0), (1, .int .i64 p1)]) I56 ?_ ?_
 refine bo ?_
 have H62 := H44.pk [0]
 obtain ⟨I66, hI67⟩ : ∃ q : (Int × Nat) → World → Prop, q = fun (i : Int × Nat) w' => Own w D w' [row A0 l0.length c0 (List.flatMap (eN .u64) l39) 30 1] ∧ ((p1 + 1 ≤ i.1 ∧ i.1 ≤ p2 ∧ p1 ≤ z38 ∧ z38 < p2 ∧ i.1 ≤ z38 + 2) ∧ z37 ≤ i.1 ∧ Int.toNat (p2 - i.1) < i.2 ∧ slices_partitionEqualOrdered_uint64_L1 p1 z38 l39 ((Int.toNat (p2 - z37)) + 1) z37 = slices_partitionEqualOrdered_uint64_L1 p1 z38 l39 i.2 i.1) := ⟨_, rfl⟩
 have dm68 : ∀ {z59 : Int} {f61 : Nat} {w' : World}, I66 (z59, f61) w' ↔ Own w D w' [row A0 l0.length c0 (List.flatMap (eN .u64) l39) 30 1] ∧ (p1 + 1 ≤ z59 ∧ z59 ≤ p2 ∧ p1 ≤ z38 ∧ z38 < p2 ∧ z59 ≤ z38 + 2) ∧ z37 ≤ z59 ∧ Int.toNat (p2 - z59) < f61 ∧ slices_partitionEqualOrdered_uint64_L1 p1 z38 l39 ((Int.toNat (p2 - z37)) + 1) z37 = slices_partitionEqualOrdered_uint64_L1 p1 z38 l39 f61 z59 := by intros; subst hI67; exact Iff.rfl
 refine Wp.loop (fun i : Int × Nat => [(9, .int .i64 i.1), (10, .int .i64 z38), (8, .int .i64 0), (0, .slice A0 l0.length c0), (1, .int .i64 p1)]) I66 (fun i => i.2) (z37, (Int.toNat (p2 - z37)) + 1) ⟨rfl, rfl, rfl, rfl, rfl, trivial⟩ (dm68.2 ⟨H62, by omega, by omega, by omega, rfl⟩) ?_
 rintro ⟨z59, f61⟩ w63 hf65
 show Wp _ _ _ [(9, .int .i64 z59), (10, .int .i64 z38), (8, .int .i64 0), (0, .slice A0 l0.length c0), (1, .int .i64 p1)] _ _
 obtain ⟨H64, hi70, hi71, hi72, hq69⟩ := dm68.1 hf65
 obtain ⟨f73, hf74⟩ : ∃ q, f61 = q + 1 := ⟨f61 - 1, by omega⟩
 subst hf74
 refine Wp.seq (Wp.seq ?_)
 have H76 := H64.drew
 refine Wp.drawnX [] (fun W => ∃ L', Own w D W ([row A0 l0.length c0 (List.flatMap (eN .u64) l39) 30 1] ++ L')) (by kernel_rfl) (by kernel_rfl) (NoP.then (NoP.then (NoP.then (NoP.block (NoP.then (NoP.block (NoP.then (NoP.block (NoP.then NoP.base))))))))) ⟨_, H76⟩ ?_
 revert H76
 generalize World.drew w63 = w75
 intro H76
 refine GX.take (v := .int .i64 z59) (rs := []) 0 rfl (by kernel_rfl) (fun _ _ => Yl.move rfl) (GX.take (v := .int .i64 z38) (rs := []) 1 rfl (by kernel_rfl) (fun _ _ => Yl.move rfl) (GX.take (v := .bool (decide (z59 ≤ z38))) (rs := []) 2 rfl (by kernel_rfl) (fun _ _ => yk) (GX.take (v := .bool (decide (z59 ≤ z38))) (rs := []) 3 rfl (by kernel_rfl) (fun _ _ => Yl.move rfl) ?_)))
 by_cases h77 : z59 ≤ z38
 refine GX.takeG (v := .slice A0 l0.length c0) (rs := []) 4 rfl rfl rfl (dT h77) (by kernel_rfl) (fun _ _ => Yl.move rfl) (GX.takeG (v := .int .i64 ((Int.toNat p1 : Nat) : Int)) (rs := []) 5 rfl rfl rfl (dT h77) (by kernel_rfl) (fun _ _ => Yl.int (e := p1) (Yl.move rfl) (by omega)) ?_)
 obtain ⟨x78, hx79⟩ := at_of (ls := l39) (i := Int.toNat p1) (by first | omega | (simp; done) | (simp; omega))
 refine GX.takeG (v := .pointer (some ⟨ab A0, ao A0 + (Int.toNat p1) * 1, none⟩)) (rs := []) 6 rfl rfl rfl (dT h77) (by kernel_rfl) (fun _ ⟨_, H9⟩ => Yl.indexAddr (El37) rfl rfl ((H9.rds (i := 0) rfl).addr (i := Int.toNat p1) (by omega)) (by omega)) (GX.takeG (v := .int .u64 ((x78 : Nat) : Int)) (rs := []) 7 rfl rfl rfl (dT h77) (by kernel_rfl) (fun _ ⟨_, H9⟩ => Yl.load rfl (Lds.one Try.isAgg30 (((H9.rds (i := 0) rfl).elem eN_len hx79 (by decide)).at_ (k := 0) rfl))) (GX.takeG (v := .slice A0 l0.length c0) (rs := []) 8 rfl rfl rfl (dT h77) (by kernel_rfl) (fun _ _ => Yl.move rfl) (GX.takeG (v := .int .i64 ((Int.toNat z59 : Nat) : Int)) (rs := []) 9 rfl rfl rfl (dT h77) (by kernel_rfl) (fun _ _ => Yl.int (e := z59) (Yl.move rfl) (by omega)) ?_)))
 obtain ⟨x80, hx81⟩ := at_of (ls := l39) (i := Int.toNat z59) (by first | omega | (simp; done) | (simp; omega))
 refine GX.takeG (v := .pointer (some ⟨ab A0, ao A0 + (Int.toNat z59) * 1, none⟩)) (rs := []) 10 rfl rfl rfl (dT h77) (by kernel_rfl) (fun _ ⟨_, H9⟩ => Yl.indexAddr (El37) rfl rfl ((H9.rds (i := 0) rfl).addr (i := Int.toNat z59) (by omega)) (by omega)) (GX.takeG (v := .int .u64 ((x80 : Nat) : Int)) (rs := []) 11 rfl rfl rfl (dT h77) (by kernel_rfl) (fun _ ⟨_, H9⟩ => Yl.load rfl (Lds.one Try.isAgg30 (((H9.rds (i := 0) rfl).elem eN_len hx81 (by decide)).at_ (k := 0) rfl))) ?_)
 obtain ⟨r87, hr88⟩ : ∃ q, cmp_Less_uint64 x78 x80 = q := ⟨_, rfl⟩
 obtain ⟨D82, HP83, ro84, bk85, rr86⟩ := Own.enter0 H76
 refine GX.doG 12 rfl rfl rfl (dT h77) (by kernel_rfl) (Do.call Try.call78 rfl (cmp_Less_uint64_ok _ _ x78 x80 r87 HP83 hr88) ?_)
 rintro _ w89 ⟨rfl, HQ90⟩
 have H91 := bk85 _ _ HQ90
 refine ⟨.inr ⟨_, H91⟩, ?_⟩
 refine GX.takeG (v := .bool (!r87)) (rs := []) 13 rfl rfl rfl (dT h77) (by kernel_rfl) (fun _ _ => yk) (GX.take (v := .bool (!r87)) (rs := []) 14 rfl (by kernel_rfl) (fun _ _ => Yl.pickT rfl (dT h77) rfl) (GX.done (by kernel_rfl) (Fin.then ?_)))
 rcases Bool.eq_false_or_eq_true (r87) with h92 | h92
 refine jF (cn h92) (Wp.exit (Fin.thenX (Fin.thenX (Fin.blockX ?_))))
 have H93 := H91.pk [0]
 exact Fin.join z59 ⟨rfl, rfl, rfl, rfl, rfl, trivial⟩ (dm58.2 ⟨H93, by omega, by omega, by omega, bnd_of (et (hq69) (et (ip h77) (et (bnd_of (getD_of hx79)) (et (bnd_of (getD_of hx81)) (et (bnd_of hr88) (ip h92))))))⟩)
 refine jT (cn h92) (sk (bo (Wp.region (Mz rfl (fw (.int .i64 (z59 + 1)) (Yl.int (e := IntKind.i64.wrap (z59 + 1)) yk (by rw [IntWalk.i64_in _ (by omega)])) (Az rfl (WL.nil (bN ?_))))))))
 have H94 := H91.pk [0]
 exact Fin.round (z59 + 1, f73) ⟨rfl, rfl, rfl, rfl, rfl, trivial⟩ (dm68.2 ⟨H94, by omega, by omega, by omega, et (hq69) (et (ip h77) (et (bnd_of (getD_of hx79)) (et (bnd_of (getD_of hx81)) (et (bnd_of hr88) (ifF h92)))))⟩) (by show f73 < f73 + 1; omega)
 refine GX.skipG (rs := []) 4 rfl rfl rfl (dF h77) (by kernel_rfl) (GX.skipG (rs := []) 5 rfl rfl rfl (dF h77) (by kernel_rfl) (GX.skipG (rs := []) 6 rfl rfl rfl (dF h77) (by kernel_rfl) (GX.skipG (rs := []) 7 rfl rfl rfl (dF h77) (by kernel_rfl) (GX.skipG (rs := []) 8 rfl rfl rfl (dF h77) (by kernel_rfl) (GX.skipG (rs := []) 9 rfl rfl rfl (dF h77) (by kernel_rfl) (GX.skipG (rs := []) 10 rfl rfl rfl (dF h77) (by kernel_rfl) (GX.skipG (rs := []) 11 rfl rfl rfl (dF h77) (by kernel_rfl) (GX.skipG (rs := []) 12 rfl rfl rfl (dF h77) (by kernel_rfl) (GX.skipG (rs := []) 13 rfl rfl rfl (dF h77) (by kernel_rfl) (GX.take (v := .bool false) (rs := []) 14 rfl (by kernel_rfl) (fun _ _ => Yl.pickF rfl (dF h77) rfl) (GX.done (by kernel_rfl) (Fin.then (jf (Wp.exit (Fin.thenX (Fin.thenX (Fin.blockX ?_)))))))))))))))))
 have H95 := H76.pk [0]
 exact Fin.join z59 ⟨rfl, rfl, rfl, rfl, rfl, trivial⟩ (dm58.2 ⟨H95, by omega, by omega, by omega, bnd_of (et (hq69) (iN h77))⟩)
 rintro z55 w96 hf98
 show Wp _ _ _ [(9, .int .i64 z55), (10, .int .i64 z38), (8, .int .i64 0), (0, .slice A0 l0.length c0), (1, .int .i64 p1)] _ _
 obtain ⟨H97, hi100, hi101, hi102, hj99⟩ := dm58.1 hf98
 refine Wp.seq ?_
 obtain ⟨I104, hI105⟩ : ∃ q : Int → World → Prop, q = fun (i : Int) w' => Own w D w' [row A0 l0.length c0 (List.flatMap (eN .u64) l39) 30 1] ∧ ((-9223372036854775808 ≤ i ∧ i ≤ 9223372036854775807) ∧ (p1 + 1 ≤ z55 ∧ z55 ≤ p2 ∧ p1 ≤ i ∧ i < p2 ∧ z55 ≤ i + 2) ∧ i ≤ z38 ∧ (bnd (slices_partitionEqualOrdered_uint64_L2 p1 l39 z55 ((Int.toNat (z38 - p1)) + 1) z38) fun sLrbbbbLsJaJjL => sLrbbbbLsJaJjL) = i) := ⟨_, rfl⟩
 have dm106 : ∀ {z103 : Int} {w' : World}, I104 z103 w' ↔ Own w D w' [row A0 l0.length c0 (List.flatMap (eN .u64) l39) 30 1] ∧ (-9223372036854775808 ≤ z103 ∧ z103 ≤ 9223372036854775807) ∧ (p1 + 1 ≤ z55 ∧ z55 ≤ p2 ∧ p1 ≤ z103 ∧ z103 < p2 ∧ z55 ≤ z103 + 2) ∧ z103 ≤ z38 ∧ (bnd (slices_partitionEqualOrdered_uint64_L2 p1 l39 z55 ((Int.toNat (z38 - p1)) + 1) z38) fun sLrbbbbLsJaJjL => sLrbbbbLsJaJjL) = z103 := by intros; subst hI105; exact Iff.rfl
 refine Wp.joinT (fun i : Int => [(10, .int .i64 i), (9, .int .i64 z55), (8, .int .i64 0), (0, .slice A0 l0.length c0), (1, .int .i64 p1)]) I104 ?_ ?_
 refine bo ?_
 have H110 := H97.pk [0]
 obtain ⟨I114, hI115⟩ : ∃ q : (Int × Nat) → World → Prop, q = fun (i : Int × Nat) w' => Own w D w' [row A0 l0.length c0 (List.flatMap (eN .u64) l39) 30 1] ∧ ((p1 + 1 ≤ z55 ∧ z55 ≤ p2 ∧ p1 ≤ i.1 ∧ i.1 < p2 ∧ z55 ≤ i.1 + 2) ∧ i.1 ≤ z38 ∧ Int.toNat (i.1 - p1) < i.2 ∧ slices_partitionEqualOrdered_uint64_L2 p1 l39 z55 ((Int.toNat (z38 - p1)) + 1) z38 = slices_partitionEqualOrdered_uint64_L2 p1 l39 z55 i.2 i.1) := ⟨_, rfl⟩
 have dm116 : ∀ {z107 : Int} {f109 : Nat} {w' : World}, I114 (z107, f109) w' ↔ Own w D w' [row A0 l0.length c0 (List.flatMap (eN .u64) l39) 30 1] ∧ (p1 + 1 ≤ z55 ∧ z55 ≤ p2 ∧ p1 ≤ z107 ∧ z107 < p2 ∧ z55 ≤ z107 + 2) ∧ z107 ≤ z38 ∧ Int.toNat (z107 - p1) < f109 ∧ slices_partitionEqualOrdered_uint64_L2 p1 l39 z55 ((Int.toNat (z38 - p1)) + 1) z38 = slices_partitionEqualOrdered_uint64_L2 p1 l39 z55 f109 z107 := by intros; subst hI115; exact Iff.rfl
 refine Wp.loop (fun i : Int × Nat => [(10, .int .i64 i.1), (9, .int .i64 z55), (8, .int .i64 0), (0, .slice A0 l0.length c0), (1, .int .i64 p1)]) I114 (fun i => i.2) (z38, (Int.toNat (z38 - p1)) + 1) ⟨rfl, rfl, rfl, rfl, rfl, trivial⟩ (dm116.2 ⟨H110, by omega, by omega, by omega, rfl⟩) ?_
 rintro ⟨z107, f109⟩ w111 hf113
 show Wp _ _ _ [(10, .int .i64 z107), (9, .int .i64 z55), (8, .int .i64 0), (0, .slice A0 l0.length c0), (1, .int .i64 p1)] _ _
 obtain ⟨H112, hi118, hi119, hi120, hq117⟩ := dm116.1 hf113
 obtain ⟨f121, hf122⟩ : ∃ q, f109 = q + 1 := ⟨f109 - 1, by omega⟩
 subst hf122
 refine Wp.seq (Wp.seq ?_)
 have H124 := H112.drew
 refine Wp.drawnX [] (fun W => ∃ L', Own w D W ([row A0 l0.length c0 (List.flatMap (eN .u64) l39) 30 1] ++ L')) (by kernel_rfl) (by kernel_rfl) (NoP.then (NoP.then (NoP.then (NoP.block (NoP.then (NoP.block (NoP.then (NoP.block (NoP.then NoP.base))))))))) ⟨_, H124⟩ ?_
 revert H124
 generalize World.drew w111 = w123
 intro H124
 refine GX.take (v := .int .i64 z55) (rs := []) 0 rfl (by kernel_rfl) (fun _ _ => Yl.move rfl) (GX.take (v := .int .i64 z107) (rs := []) 1 rfl (by kernel_rfl) (fun _ _ => Yl.move rfl) (GX.take (v := .bool (decide (z55 ≤ z107))) (rs := []) 2 rfl (by kernel_rfl) (fun _ _ => yk) (GX.take (v := .bool (decide (z55 ≤ z107))) (rs := []) 3 rfl (by kernel_rfl) (fun _ _ => Yl.move rfl) ?_)))
 by_cases h125 : z55 ≤ z107
 refine GX.takeG (v := .slice A0 l0.length c0) (rs := []) 4 rfl rfl rfl (dT h125) (by kernel_rfl) (fun _ _ => Yl.move rfl) (GX.takeG (v := .int .i64 ((Int.toNat p1 : Nat) : Int)) (rs := []) 5 rfl rfl rfl (dT h125) (by kernel_rfl) (fun _ _ => Yl.int (e := p1) (Yl.move rfl) (by omega)) ?_)
 obtain ⟨x126, hx127⟩ := at_of (ls := l39) (i := Int.toNat p1) (by first | omega | (simp; done) | (simp; omega))
 refine GX.takeG (v := .pointer (some ⟨ab A0, ao A0 + (Int.toNat p1) * 1, none⟩)) (rs := []) 6 rfl rfl rfl (dT h125) (by kernel_rfl) (fun _ ⟨_, H9⟩ => Yl.indexAddr (El37) rfl rfl ((H9.rds (i := 0) rfl).addr (i := Int.toNat p1) (by omega)) (by omega)) (GX.takeG (v := .int .u64 ((x126 : Nat) : Int)) (rs := []) 7 rfl rfl rfl (dT h125) (by kernel_rfl) (fun _ ⟨_, H9⟩ => Yl.load rfl (Lds.one Try.isAgg30 (((H9.rds (i := 0) rfl).elem eN_len hx127 (by decide)).at_ (k := 0) rfl))) (GX.takeG (v := .slice A0 l0.length c0) (rs := []) 8 rfl rfl rfl (dT h125) (by kernel_rfl) (fun _ _ => Yl.move rfl) (GX.takeG (v := .int .i64 ((Int.toNat z107 : Nat) : Int)) (rs := []) 9 rfl rfl rfl (dT h125) (by kernel_rfl) (fun _ _ => Yl.int (e := z107) (Yl.move rfl) (by omega)) ?_)))
 obtain ⟨x128, hx129⟩ := at_of (ls := l39) (i := Int.toNat z107) (by first | omega | (simp; done) | (simp; omega))
 refine GX.takeG (v := .pointer (some ⟨ab A0, ao A0 + (Int.toNat z107) * 1, none⟩)) (rs := []) 10 rfl rfl rfl (dT h125) (by kernel_rfl) (fun _ ⟨_, H9⟩ => Yl.indexAddr (El37) rfl rfl ((H9.rds (i := 0) rfl).addr (i := Int.toNat z107) (by omega)) (by omega)) (GX.takeG (v := .int .u64 ((x128 : Nat) : Int)) (rs := []) 11 rfl rfl rfl (dT h125) (by kernel_rfl) (fun _ ⟨_, H9⟩ => Yl.load rfl (Lds.one Try.isAgg30 (((H9.rds (i := 0) rfl).elem eN_len hx129 (by decide)).at_ (k := 0) rfl))) ?_)
 obtain ⟨r135, hr136⟩ : ∃ q, cmp_Less_uint64 x126 x128 = q := ⟨_, rfl⟩
 obtain ⟨D130, HP131, ro132, bk133, rr134⟩ := Own.enter0 H124
 refine GX.doG 12 rfl rfl rfl (dT h125) (by kernel_rfl) (Do.call Try.call78 rfl (cmp_Less_uint64_ok _ _ x126 x128 r135 HP131 hr136) ?_)
 rintro _ w137 ⟨rfl, HQ138⟩
 have H139 := bk133 _ _ HQ138
 refine ⟨.inr ⟨_, H139⟩, ?_⟩
 refine GX.take (v := .bool r135) (rs := []) 13 rfl (by kernel_rfl) (fun _ _ => Yl.pickT rfl (dT h125) rfl) (GX.done (by kernel_rfl) (Fin.then ?_))
 rcases Bool.eq_false_or_eq_true (r135) with h140 | h140
 refine jT h140 (sk (bo (Wp.region (Mz rfl (fw (.int .i64 (z107 - 1)) (Yl.int (e := IntKind.i64.wrap (z107 - 1)) yk (by rw [IntWalk.i64_in _ (by omega)])) (Az rfl (WL.nil (bN ?_))))))))
 have H141 := H139.pk [0]
 exact Fin.round (z107 - 1, f121) ⟨rfl, rfl, rfl, rfl, rfl, trivial⟩ (dm116.2 ⟨H141, by omega, by omega, by omega, et (hq117) (et (ip h125) (et (bnd_of (getD_of hx127)) (et (bnd_of (getD_of hx129)) (et (bnd_of hr136) (ip h140)))))⟩) (by show f121 < f121 + 1; omega)
 refine jF h140 (Wp.exit (Fin.thenX (Fin.thenX (Fin.blockX ?_))))
 have H142 := H139.pk [0]
 exact Fin.join z107 ⟨rfl, rfl, rfl, rfl, rfl, trivial⟩ (dm106.2 ⟨H142, by omega, by omega, by omega, bnd_of (et (hq117) (et (ip h125) (et (bnd_of (getD_of hx127)) (et (bnd_of (getD_of hx129)) (et (bnd_of hr136) (ifF h140))))))⟩)
 refine GX.skipG (rs := []) 4 rfl rfl rfl (dF h125) (by kernel_rfl) (GX.skipG (rs := []) 5 rfl rfl rfl (dF h125) (by kernel_rfl) (GX.skipG (rs := []) 6 rfl rfl rfl (dF h125) (by kernel_rfl) (GX.skipG (rs := []) 7 rfl rfl rfl (dF h125) (by kernel_rfl) (GX.skipG (rs := []) 8 rfl rfl rfl (dF h125) (by kernel_rfl) (GX.skipG (rs := []) 9 rfl rfl rfl (dF h125) (by kernel_rfl) (GX.skipG (rs := []) 10 rfl rfl rfl (dF h125) (by kernel_rfl) (GX.skipG (rs := []) 11 rfl rfl rfl (dF h125) (by kernel_rfl) (GX.skipG (rs := []) 12 rfl rfl rfl (dF h125) (by kernel_rfl) (GX.take (v := .bool false) (rs := []) 13 rfl (by kernel_rfl) (fun _ _ => Yl.pickF rfl (dF h125) rfl) (GX.done (by kernel_rfl) (Fin.then (jf (Wp.exit (Fin.thenX (Fin.thenX (Fin.blockX ?_))))))))))))))))
 have H143 := H124.pk [0]
 exact Fin.join z107 ⟨rfl, rfl, rfl, rfl, rfl, trivial⟩ (dm106.2 ⟨H143, by omega, by omega, by omega, bnd_of (et (hq117) (iN h125))⟩)
 rintro z103 w144 hf146
 show Wp _ _ _ [(10, .int .i64 z103), (9, .int .i64 z55), (8, .int .i64 0), (0, .slice A0 l0.length c0), (1, .int .i64 p1)] _ _
 obtain ⟨H145, hi148, hi149, hi150, hj147⟩ := dm106.1 hf146
 refine Wp.seq (sr (Mz rfl (Mz rfl (Kz (.bool (decide (z55 > z103))) (nt ?_)))))
 by_cases h151 : z55 > z103
 refine jT (dT h151) (Wp.exit (Fin.thenX (Fin.blockO rfl ?_)))
 have hL152 : slices_partitionEqualOrdered_uint64_L0 p1 p2 ((Int.toNat ((p2 - 1) - (p1 + 1) + 3)) + 1) (p1 + 1) (p2 - 1) (List.set (List.set l0 (Int.toNat p1) x23) (Int.toNat p3) x25) = (l39, z55) := et (hq49) (et (bnd_of hj99) (et (bnd_of hj147) (ip h151)))
 refine Fin.thenX (Fin.blockX (Fin.then (sr (Mz rfl (An rfl (rt (rs ?_)))))))
 have H153 := H145.pk [0]
 have e : slices_partitionEqualOrdered_uint64 l0 p1 p2 p3 = (z55, l39) := et (bnd_of (getD_of hx24)) (et (bnd_of (getD_of hx26)) (bnd_of hL152))
 obtain ⟨rfl, rfl⟩ := pj2 (e.symm.trans hr)
 exact ⟨rfl, H153, (by first | rfl | omega | (simp only [List.length_set] <;> omega)), (by omega)⟩
 refine jF (dF h151) (sk (Wp.seq ?_))
 have H155 := H145.drew
 refine Wp.drawnX [13, 15] (fun W => ∃ L', Own w D W ([row A0 l0.length c0 (List.flatMap (eN .u64) l39) 30 1] ++ L')) (by kernel_rfl) (by kernel_rfl) (NoP.then (NoP.block (NoP.then (NoP.block (NoP.then NoP.base))))) ⟨_, H155⟩ ?_
 revert H155
 generalize World.drew w144 = w154
 intro H155
 refine GX.take (v := .slice A0 l0.length c0) (rs := [[], []]) 0 rfl (by kernel_rfl) (fun _ _ => Yl.move rfl) (GX.take (v := .int .i64 ((Int.toNat z55 : Nat) : Int)) (rs := [[], []]) 1 rfl (by kernel_rfl) (fun _ _ => Yl.int (e := z55) (Yl.move rfl) (by omega)) (GX.takeA (v := .slice A0 l0.length c0) 2 rfl (by kernel_rfl) (fun _ => Yl.move rfl) (GX.takeA (v := .int .i64 ((Int.toNat z103 : Nat) : Int)) 3 rfl (by kernel_rfl) (fun _ => Yl.int (e := z103) (Yl.move rfl) (by omega)) (GX.take (v := .slice A0 l0.length c0) (rs := [[], []]) 4 rfl (by kernel_rfl) (fun _ _ => Yl.move rfl) (GX.take (v := .int .i64 ((Int.toNat z103 : Nat) : Int)) (rs := [[], []]) 5 rfl (by kernel_rfl) (fun _ _ => Yl.int (e := z103) (Yl.move rfl) (by omega)) ?_)))))
 obtain ⟨x156, hx157⟩ := at_of (ls := l39) (i := Int.toNat z103) (by first | omega | (simp; done) | (simp; omega))
 refine GX.take (v := .pointer (some ⟨ab A0, ao A0 + (Int.toNat z103) * 1, none⟩)) (rs := [[], []]) 6 rfl (by kernel_rfl) (fun _ ⟨_, H9⟩ => Yl.indexAddr (El37) rfl rfl ((H9.rds (i := 0) rfl).addr (i := Int.toNat z103) (by omega)) (by omega)) (GX.take (v := .int .u64 ((x156 : Nat) : Int)) (rs := [[], []]) 7 rfl (by kernel_rfl) (fun _ ⟨_, H9⟩ => Yl.load rfl (Lds.one Try.isAgg30 (((H9.rds (i := 0) rfl).elem eN_len hx157 (by decide)).at_ (k := 0) rfl))) (GX.take (v := .slice A0 l0.length c0) (rs := [[11, 10], []]) 8 rfl (by kernel_rfl) (fun _ _ => Yl.move rfl) (GX.take (v := .int .i64 ((Int.toNat z55 : Nat) : Int)) (rs := [[11, 10], []]) 9 rfl (by kernel_rfl) (fun _ _ => Yl.int (e := z55) (Yl.move rfl) (by omega)) ?_)))
 obtain ⟨x158, hx159⟩ := at_of (ls := l39) (i := Int.toNat z55) (by first | omega | (simp; done) | (simp; omega))
 refine GX.take (v := .pointer (some ⟨ab A0, ao A0 + (Int.toNat z55) * 1, none⟩)) (rs := [[11], []]) 10 rfl (by kernel_rfl) (fun _ ⟨_, H9⟩ => Yl.indexAddr (El37) rfl rfl ((H9.rds (i := 0) rfl).addr (i := Int.toNat z55) (by omega)) (by omega)) (GX.take (v := .int .u64 ((x158 : Nat) : Int)) (rs := [[], []]) 11 rfl (by kernel_rfl) (fun _ ⟨_, H9⟩ => Yl.load rfl (Lds.one Try.isAgg30 (((H9.rds (i := 0) rfl).elem eN_len hx159 (by decide)).at_ (k := 0) rfl))) (GX.take (v := .pointer (some ⟨ab A0, ao A0 + (Int.toNat z55) * 1, none⟩)) (rs := [[], []]) 12 rfl (by kernel_rfl) (fun _ ⟨_, H9⟩ => Yl.indexAddr (El37) rfl rfl ((H9.rds (i := 0) rfl).addr (i := Int.toNat z55) (by omega)) (by omega)) ?_))
 refine GX.do0 13 rfl (by kernel_rfl) (Do.storeRow (vs := [.int .u64 ((x156 : Nat) : Int)]) (o := (Int.toNat z55) * 1 + 0) (q := ao A0 + (Int.toNat z55) * 1) H155 rfl (by omega) rfl Try.sizeOf30 rfl rfl (Nat.le_of_ble_eq_true rfl) (store_fits eN_len hx159 (Nat.le_of_ble_eq_true rfl)) (flat_set (y := x156) eN_len rfl (Nat.le_of_ble_eq_true rfl) hx159) ?_)
 intro w160 H161
 refine ⟨.inl (by kernel_rfl), ?_⟩
 obtain ⟨x162, hx163⟩ := at_of (ls := l39) (i := Int.toNat z103) (by first | omega | (simp; done) | (simp; omega))
 obtain ⟨x164, hx165⟩ := rds_at (ls := (List.set l39 (Int.toNat z55) x156)) (i := Int.toNat z103) eN_len (by decide) (H161.rds (i := 0) rfl) (by first | omega | (simp; done) | (simp; omega))
 refine GX.takeA (v := .pointer (some ⟨ab A0, ao A0 + (Int.toNat z103) * 1, none⟩)) 14 rfl (by kernel_rfl) (fun _ => Yl.indexAddr (El37) rfl rfl ((H161.rds (i := 0) rfl).addr (i := Int.toNat z103) (by omega)) (by omega)) ?_
 obtain ⟨x166, hx167⟩ := at_of (ls := (List.set l39 (Int.toNat z55) x156)) (i := Int.toNat z103) (by first | omega | (simp; done) | (simp; omega))
 refine GX.do0 15 rfl (by kernel_rfl) (Do.storeRow (vs := [.int .u64 ((x158 : Nat) : Int)]) (o := (Int.toNat z103) * 1 + 0) (q := ao A0 + (Int.toNat z103) * 1) H161 rfl (by omega) rfl Try.sizeOf30 rfl rfl (Nat.le_of_ble_eq_true rfl) (store_fits eN_len hx167 (Nat.le_of_ble_eq_true rfl)) (flat_set (y := x158) eN_len rfl (Nat.le_of_ble_eq_true rfl) hx167) ?_)
 intro w168 H169
 refine ⟨.inl (by kernel_rfl), ?_⟩
 refine GX.done (by kernel_rfl) (Fin.then (sr (Mz rfl (fw (.int .i64 (z55 + 1)) (Yl.int (e := IntKind.i64.wrap (z55 + 1)) yk (by rw [IntWalk.i64_in _ (by omega)])) (An rfl (Wp.region (Mz rfl (fw (.int .i64 (z103 - 1)) (Yl.int (e := IntKind.i64.wrap (z103 - 1)) yk (by rw [IntWalk.i64_in _ (by omega)])) (Az rfl (WL.nil (bN ?_)))))))))))
 have H170 := H169.pk [0]
 exact Fin.round (z55 + 1, z103 - 1, (List.set (List.set l39 (Int.toNat z55) x156) (Int.toNat z103) x158), f53) ⟨rfl, rfl, rfl, rfl, rfl, trivial⟩ (dm48.2 ⟨H170, by first | omega | (simp only [List.length_set] <;> omega) | (simp only [List.length_replicate]), by omega, by omega, Eq.trans (hq49) (Eq.trans (bnd_of hj99) (Eq.trans (bnd_of hj147) (Eq.trans (if_neg h151) (Eq.trans (bnd_of (getD_of hx157)) (bnd_of (getD_of hx159))))))⟩) (by show f53 < f53 + 1; omega)
def slices_partialInsertionSortOrdered_uint64_L1 (p2 : Int) (l23 : List Nat) : Nat → Int → Int
  | 0, z47 => default
  | q48 + 1, z47 => if z47 < p2 then bnd (List.getD l23 (Int.toNat z47) default) fun yx65 => bnd (List.getD l23 (Int.toNat (z47 - 1)) default) fun yx67 => bnd (cmp_Less_uint64 yx65 yx67) fun yr74 => if yr74 = true then z47 else slices_partialInsertionSortOrdered_uint64_L1 p2 l23 q48 (z47 + 1) else z47
def slices_partialInsertionSortOrdered_uint64_L2 : Nat → Int → List Nat → (List Nat)
  | 0, z114, l115 => default
  | q116 + 1, z114, l115 => if z114 ≥ 1 then bnd (List.getD l115 (Int.toNat z114) default) fun yx134 => bnd (List.getD l115 (Int.toNat (z114 - 1)) default) fun yx136 => bnd (cmp_Less_uint64 yx134 yx136) fun yr143 => if yr143 = true then slices_partialInsertionSortOrdered_uint64_L2 q116 (z114 - 1) (List.set (List.set l115 (Int.toNat z114) yx136) (Int.toNat (z114 - 1)) yx134) else l115 else l115
def slices_partialInsertionSortOrdered_uint64_L3 (p2 : Int) (z43 : Int) : Nat → Int → List Nat → Int × (List Nat)
  | 0, z171, l172 => default
  | q173 + 1, z171, l172 => if z171 < p2 then bnd (List.getD l172 (Int.toNat z171) default) fun yx191 => bnd (List.getD l172 (Int.toNat (z171 - 1)) default) fun yx193 => bnd (cmp_Less_uint64 yx191 yx193) fun yr200 => if yr200 = true then slices_partialInsertionSortOrdered_uint64_L3 p2 z43 q173 (z171 + 1) (List.set (List.set l172 (Int.toNat z171) yx193) (Int.toNat (z171 - 1)) yx191) else (z43, l172) else (z43, l172)
def slices_partialInsertionSortOrdered_uint64_L0 (p1 : Int) (p2 : Int) : Nat → Int → List Nat → (List Nat) ⊕ (Bool × (List Nat))
  | 0, z21, l23 => Sum.inl l23
  | q24 + 1, z21, l23 => lpS (bnd (bnd (slices_partialInsertionSortOrdered_uint64_L1 p2 l23 ((Int.toNat (p2 - z21)) + 1) z21) fun sLrLsJjJjL => sLrLsJjJjL) fun sJrLsJjJ => if sJrLsJjJ = p2 then Sum.inr (true, l23) else if p2 - p1 < 50 then Sum.inr (false, l23) else bnd (List.getD l23 (Int.toNat (sJrLsJjJ - 1)) default) fun yx95 => bnd (List.getD l23 (Int.toNat sJrLsJjJ) default) fun yx97 => bnd (if sJrLsJjJ - p1 ≥ 2 then bnd (slices_partialInsertionSortOrdered_uint64_L2 ((Int.toNat (sJrLsJjJ - 1)) + 1) (sJrLsJjJ - 1) (List.set (List.set l23 (Int.toNat sJrLsJjJ) yx95) (Int.toNat (sJrLsJjJ - 1)) yx97)) fun sLrLsJjJaffbbbbJjtL => sLrLsJjJaffbbbbJjtL else (List.set (List.set l23 (Int.toNat sJrLsJjJ) yx95) (Int.toNat (sJrLsJjJ - 1)) yx97)) fun sJrLsJjJaffbbbbJ => if p2 - sJrLsJjJ ≥ 2 then bnd (slices_partialInsertionSortOrdered_uint64_L3 p2 sJrLsJjJ ((Int.toNat (p2 - (sJrLsJjJ + 1))) + 1) (sJrLsJjJ + 1) sJrLsJjJaffbbbbJ) fun sLrLsJjJaffbbbbJatL => Sum.inl (sLrLsJjJaffbbbbJatL.1, sLrLsJjJaffbbbbJatL.2) else Sum.inl (sJrLsJjJ, sJrLsJjJaffbbbbJ)) fun sJrLsJ => slices_partialInsertionSortOrdered_uint64_L0 p1 p2 q24 sJrLsJ.1 sJrLsJ.2
def slices_partialInsertionSortOrdered_uint64 (l0 : List Nat) (p1 : Int) (p2 : Int) : Bool × (List Nat) :=
 lp (slices_partialInsertionSortOrdered_uint64_L0 p1 p2 5 (p1 + 1) l0) fun sLrL => (false, sLrL)
set_option maxRecDepth 100000 in
theorem slices_partialInsertionSortOrdered_uint64_ok (w : World) (D : Nat → Prop) (A0 : Option Addr) (n0 c0 : Nat) (l0 : List Nat) (p1 : Int) (p2 : Int) (r0 : Bool) (r1 : List Nat) (H : Own w D w [row A0 n0 c0 (List.flatMap (eN .u64) l0) 30 1]) (hn0 : n0 = l0.length) (hl0 : l0.length * 8 ≤ 211106232532992) (hh0 : 0 ≤ p1 ∧ p1 ≤ p2 ∧ p2 ≤ ((l0.length : Nat) : Int)) (hh1 : p1 < p2) (hr : slices_partialInsertionSortOrdered_uint64 l0 p1 p2 = (r0, r1)) :
    Calls Try.prog 77 #[.slice A0 n0 c0, .int .i64 p1, .int .i64 p2] w (Ret fun v w' => v = .bool r0 ∧ Own w D w' [row A0 n0 c0 (List.flatMap (eN .u64) r1) 30 1] ∧ (r1.length = l0.length)) := by
 subst hn0
 have hc0 := H.rowC (i := 0) rfl
 refine Calls.body (args := [.slice A0 l0.length c0, .int .i64 p1, .int .i64 p2]) Try.func77 rfl rfl rfl ?_
 show Wp _ _ _ [(0, .slice A0 l0.length c0), (1, .int .i64 p1), (2, .int .i64 p2)] _ _
 refine sr (Ar rfl (Mz rfl (fw (.int .i64 (p1 + 1)) (Yl.int (e := IntKind.i64.wrap (p1 + 1)) yk (by rw [IntWalk.i64_in _ (by omega)])) (An rfl (Wp.seq (sr (An rfl (bo ?_))))))))
 have H25 : Own w D w [row A0 l0.length c0 (List.flatMap (eN .u64) l0) 30 1] := H.pk [0]
 obtain ⟨I29, hI30⟩ : ∃ q : (Int × Nat × (List Nat)) → World → Prop, q = fun (i : Int × Nat × (List Nat)) w' => Own w D w' [row A0 l0.length c0 (List.flatMap (eN .u64) i.2.2) 30 1] ∧ (i.2.2.length = l0.length ∧ i.2.1 ≤ 5 ∧ (p1 + 1 ≤ i.1 ∧ i.1 ≤ p2) ∧ 0 ≤ i.2.1 ∧ slices_partialInsertionSortOrdered_uint64_L0 p1 p2 5 (p1 + 1) l0 = slices_partialInsertionSortOrdered_uint64_L0 p1 p2 (5 - i.2.1) i.1 i.2.2) := ⟨_, rfl⟩
 have dm31 : ∀ {z21 : Int} {k22 : Nat} {l23 : List Nat} {w' : World}, I29 (z21, k22, l23) w' ↔ Own w D w' [row A0 l0.length c0 (List.flatMap (eN .u64) l23) 30 1] ∧ l23.length = l0.length ∧ k22 ≤ 5 ∧ (p1 + 1 ≤ z21 ∧ z21 ≤ p2) ∧ 0 ≤ k22 ∧ slices_partialInsertionSortOrdered_uint64_L0 p1 p2 5 (p1 + 1) l0 = slices_partialInsertionSortOrdered_uint64_L0 p1 p2 (5 - k22) z21 l23 := by intros; subst hI30; exact Iff.rfl
 refine Wp.loop (fun i : Int × Nat × (List Nat) => [(6, .bool false), (7, .int .i64 i.1), (8, .int .i64 ((i.2.1 : Nat) : Int)), (0, .slice A0 l0.length c0), (1, .int .i64 p1), (2, .int .i64 p2)]) I29 (fun i => 5 - i.2.1) (p1 + 1, 0, l0) ⟨rfl, rfl, rfl, rfl, rfl, rfl, trivial⟩ (dm31.2 ⟨H25, by first | omega | (simp only [List.length_set] <;> omega) | (simp only [List.length_replicate]), by omega, by omega, by omega, rfl⟩) ?_
 rintro ⟨z21, k22, l23⟩ w26 hf28
 show Wp _ _ _ [(6, .bool false), (7, .int .i64 z21), (8, .int .i64 ((k22 : Nat) : Int)), (0, .slice A0 l0.length c0), (1, .int .i64 p1), (2, .int .i64 p2)] _ _
 obtain ⟨H27, hi33, hi34, hi35, hi36, hq32⟩ := dm31.1 hf28
 refine Wp.seq (sr (Mz rfl (Kz (.bool (decide (((k22 : Nat) : Int) < 5))) (nt ?_))))
 by_cases h37 : ((k22 : Nat) : Int) < 5
 refine jT (dT h37) (sk (Wp.seq ?_))
 obtain ⟨I40, hI41⟩ : ∃ q : (Int × (List Nat)) → World → Prop, q = fun (i : Int × (List Nat)) w' => Own w D w' [row A0 l0.length c0 (List.flatMap (eN .u64) i.2) 30 1] ∧ (i.2.length = l0.length ∧ (-9223372036854775808 ≤ i.1 ∧ i.1 ≤ 9223372036854775807) ∧ (p1 + 1 ≤ i.1 ∧ i.1 ≤ p2) ∧ (bnd (bnd (slices_partialInsertionSortOrdered_uint64_L1 p2 l23 ((Int.toNat (p2 - z21)) + 1) z21) fun sLrLsJjJjL => sLrLsJjJjL) fun sJrLsJjJ => if sJrLsJjJ = p2 then Sum.inr (true, l23) else if p2 - p1 < 50 then Sum.inr (false, l23) else bnd (List.getD l23 (Int.toNat (sJrLsJjJ - 1)) default) fun yx95 => bnd (List.getD l23 (Int.toNat sJrLsJjJ) default) fun yx97 => bnd (if sJrLsJjJ - p1 ≥ 2 then bnd (slices_partialInsertionSortOrdered_uint64_L2 ((Int.toNat (sJrLsJjJ - 1)) + 1) (sJrLsJjJ - 1) (List.set (List.set l23 (Int.toNat sJrLsJjJ) yx95) (Int.toNat (sJrLsJjJ - 1)) yx97)) fun sLrLsJjJaffbbbbJjtL => sLrLsJjJaffbbbbJjtL else (List.set (List.set l23 (Int.toNat sJrLsJjJ) yx95) (Int.toNat (sJrLsJjJ - 1)) yx97)) fun sJrLsJjJaffbbbbJ => if p2 - sJrLsJjJ ≥ 2 then bnd (slices_partialInsertionSortOrdered_uint64_L3 p2 sJrLsJjJ ((Int.toNat (p2 - (sJrLsJjJ + 1))) + 1) (sJrLsJjJ + 1) sJrLsJjJaffbbbbJ) fun sLrLsJjJaffbbbbJatL => Sum.inl (sLrLsJjJaffbbbbJatL.1, sLrLsJjJaffbbbbJatL.2) else Sum.inl (sJrLsJjJ, sJrLsJjJaffbbbbJ)) = Sum.inl (i.1, i.2)) := ⟨_, rfl⟩
 have dm42 : ∀ {z38 : Int} {l39 : List Nat} {w' : World}, I40 (z38, l39) w' ↔ Own w D w' [row A0 l0.length c0 (List.flatMap (eN .u64) l39) 30 1] ∧ l39.length = l0.length ∧ (-9223372036854775808 ≤ z38 ∧ z38 ≤ 9223372036854775807) ∧ (p1 + 1 ≤ z38 ∧ z38 ≤ p2) ∧ (bnd (bnd (slices_partialInsertionSortOrdered_uint64_L1 p2 l23 ((Int.toNat (p2 - z21)) + 1) z21) fun sLrLsJjJjL => sLrLsJjJjL) fun sJrLsJjJ => if sJrLsJjJ = p2 then Sum.inr (true, l23) else if p2 - p1 < 50 then Sum.inr (false, l23) else bnd (List.getD l23 (Int.toNat (sJrLsJjJ - 1)) default) fun yx95 => bnd (List.getD l23 (Int.toNat sJrLsJjJ) default) fun yx97 => bnd (if sJrLsJjJ - p1 ≥ 2 then bnd (slices_partialInsertionSortOrdered_uint64_L2 ((Int.toNat (sJrLsJjJ - 1)) + 1) (sJrLsJjJ - 1) (List.set (List.set l23 (Int.toNat sJrLsJjJ) yx95) (Int.toNat (sJrLsJjJ - 1)) yx97)) fun sLrLsJjJaffbbbbJjtL => sLrLsJjJaffbbbbJjtL else (List.set (List.set l23 (Int.toNat sJrLsJjJ) yx95) (Int.toNat (sJrLsJjJ - 1)) yx97)) fun sJrLsJjJaffbbbbJ => if p2 - sJrLsJjJ ≥ 2 then bnd (slices_partialInsertionSortOrdered_uint64_L3 p2 sJrLsJjJ ((Int.toNat (p2 - (sJrLsJjJ + 1))) + 1) (sJrLsJjJ + 1) sJrLsJjJaffbbbbJ) fun sLrLsJjJaffbbbbJatL => Sum.inl (sLrLsJjJaffbbbbJatL.1, sLrLsJjJaffbbbbJatL.2) else Sum.inl (sJrLsJjJ, sJrLsJjJaffbbbbJ)) = Sum.inl (z38, l39) := by intros; subst hI41; exact Iff.rfl
 refine Wp.joinT (fun i : Int × (List Nat) => [(6, .bool false), (7, .int .i64 i.1), (8, .int .i64 ((k22 : Nat) : Int)), (0, .slice A0 l0.length c0), (1, .int .i64 p1), (2, .int .i64 p2)]) I40 ?_ ?_
 refine bo (Wp.seq ?_)
 obtain ⟨I44, hI45⟩ : ∃ q : Int → World → Prop, q = fun (i : Int) w' => Own w D w' [row A0 l0.length c0 (List.flatMap (eN .u64) l23) 30 1] ∧ ((-9223372036854775808 ≤ i ∧ i ≤ 9223372036854775807) ∧ (p1 + 1 ≤ i ∧ i ≤ p2) ∧ (bnd (slices_partialInsertionSortOrdered_uint64_L1 p2 l23 ((Int.toNat (p2 - z21)) + 1) z21) fun sLrLsJjJjL => sLrLsJjJjL) = i) := ⟨_, rfl⟩
 have dm46 : ∀ {z43 : Int} {w' : World}, I44 z43 w' ↔ Own w D w' [row A0 l0.length c0 (List.flatMap (eN .u64) l23) 30 1] ∧ (-9223372036854775808 ≤ z43 ∧ z43 ≤ 9223372036854775807) ∧ (p1 + 1 ≤ z43 ∧ z43 ≤ p2) ∧ (bnd (slices_partialInsertionSortOrdered_uint64_L1 p2 l23 ((Int.toNat (p2 - z21)) + 1) z21) fun sLrLsJjJjL => sLrLsJjJjL) = z43 := by intros; subst hI45; exact Iff.rfl
 refine Wp.joinT (fun i : Int => [(7, .int .i64 i), (6, .bool false), (8, .int .i64 ((k22 : Nat) : Int)), (0, .slice A0 l0.length c0), (1, .int .i64 p1), (2, .int .i64 p2)]) I44 ?_ ?_
 refine bo ?_
 have H50 := H27.pk [0]
 obtain ⟨I54, hI55⟩ : ∃ q : (Int × Nat) → World → Prop, q = fun (i : Int × Nat) w' => Own w D w' [row A0 l0.length c0 (List.flatMap (eN .u64) l23) 30 1] ∧ ((p1 + 1 ≤ i.1 ∧ i.1 ≤ p2) ∧ Int.toNat (p2 - i.1) < i.2 ∧ slices_partialInsertionSortOrdered_uint64_L1 p2 l23 ((Int.toNat (p2 - z21)) + 1) z21 = slices_partialInsertionSortOrdered_uint64_L1 p2 l23 i.2 i.1) := ⟨_, rfl⟩
 have dm56 : ∀ {z47 : Int} {f49 : Nat} {w' : World}, I54 (z47, f49) w' ↔ Own w D w' [row A0 l0.length c0 (List.flatMap (eN .u64) l23) 30 1] ∧ (p1 + 1 ≤ z47 ∧ z47 ≤ p2) ∧ Int.toNat (p2 - z47) < f49 ∧ slices_partialInsertionSortOrdered_uint64_L1 p2 l23 ((Int.toNat (p2 - z21)) + 1) z21 = slices_partialInsertionSortOrdered_uint64_L1 p2 l23 f49 z47 := by intros; subst hI55; exact Iff.rfl
 refine Wp.loop (fun i : Int × Nat => [(7, .int .i64 i.1), (6, .bool false), (8, .int .i64 ((k22 : Nat) : Int)), (0, .slice A0 l0.length c0), (1, .int .i64 p1), (2, .int .i64 p2)]) I54 (fun i => i.2) (z21, (Int.toNat (p2 - z21)) + 1) ⟨rfl, rfl, rfl, rfl, rfl, rfl, trivial⟩ (dm56.2 ⟨H50, by omega, by omega, rfl⟩) ?_
 rintro ⟨z47, f49⟩ w51 hf53
 show Wp _ _ _ [(7, .int .i64 z47), (6, .bool false), (8, .int .i64 ((k22 : Nat) : Int)), (0, .slice A0 l0.length c0), (1, .int .i64 p1), (2, .int .i64 p2)] _ _
 obtain ⟨H52, hi58, hi59, hq57⟩ := dm56.1 hf53
 obtain ⟨f60, hf61⟩ : ∃ q, f49 = q + 1 := ⟨f49 - 1, by omega⟩
 subst hf61
 refine Wp.seq (Wp.seq ?_)
 have H63 := H52.drew
 refine Wp.drawnX [] (fun W => ∃ L', Own w D W ([row A0 l0.length c0 (List.flatMap (eN .u64) l23) 30 1] ++ L')) (by kernel_rfl) (by kernel_rfl) (NoP.then (NoP.then (NoP.then (NoP.block (NoP.then (NoP.block (NoP.then (NoP.then (NoP.block (NoP.then NoP.base)))))))))) ⟨_, H63⟩ ?_
 revert H63
 generalize World.drew w51 = w62
 intro H63
 refine GX.take (v := .int .i64 z47) (rs := []) 0 rfl (by kernel_rfl) (fun _ _ => Yl.move rfl) (GX.take (v := .int .i64 p2) (rs := []) 1 rfl (by kernel_rfl) (fun _ _ => Yl.move rfl) (GX.take (v := .bool (decide (z47 < p2))) (rs := []) 2 rfl (by kernel_rfl) (fun _ _ => yk) (GX.take (v := .bool (decide (z47 < p2))) (rs := []) 3 rfl (by kernel_rfl) (fun _ _ => Yl.move rfl) ?_)))
 by_cases h64 : z47 < p2
 refine GX.takeG (v := .slice A0 l0.length c0) (rs := []) 4 rfl rfl rfl (dT h64) (by kernel_rfl) (fun _ _ => Yl.move rfl) (GX.takeG (v := .int .i64 ((Int.toNat z47 : Nat) : Int)) (rs := []) 5 rfl rfl rfl (dT h64) (by kernel_rfl) (fun _ _ => Yl.int (e := z47) (Yl.move rfl) (by omega)) ?_)
 obtain ⟨x65, hx66⟩ := at_of (ls := l23) (i := Int.toNat z47) (by first | omega | (simp; done) | (simp; omega))
 refine GX.takeG (v := .pointer (some ⟨ab A0, ao A0 + (Int.toNat z47) * 1, none⟩)) (rs := []) 6 rfl rfl rfl (dT h64) (by kernel_rfl) (fun _ ⟨_, H9⟩ => Yl.indexAddr (El37) rfl rfl ((H9.rds (i := 0) rfl).addr (i := Int.toNat z47) (by omega)) (by omega)) (GX.takeG (v := .int .u64 ((x65 : Nat) : Int)) (rs := []) 7 rfl rfl rfl (dT h64) (by kernel_rfl) (fun _ ⟨_, H9⟩ => Yl.load rfl (Lds.one Try.isAgg30 (((H9.rds (i := 0) rfl).elem eN_len hx66 (by decide)).at_ (k := 0) rfl))) (GX.takeG (v := .slice A0 l0.length c0) (rs := []) 8 rfl rfl rfl (dT h64) (by kernel_rfl) (fun _ _ => Yl.move rfl) (GX.takeG (v := .int .i64 z47) (rs := []) 9 rfl rfl rfl (dT h64) (by kernel_rfl) (fun _ _ => Yl.move rfl) (GX.takeG (v := .int .i64 ((Int.toNat (z47 - 1) : Nat) : Int)) (rs := []) 10 rfl rfl rfl (dT h64) (by kernel_rfl) (fun _ _ => Yl.int (e := IntKind.i64.wrap (z47 - 1)) yk (by rw [IntWalk.i64_in _ (by omega)]; omega)) ?_))))
 obtain ⟨x67, hx68⟩ := at_of (ls := l23) (i := Int.toNat (z47 - 1)) (by first | omega | (simp; done) | (simp; omega))
 refine GX.takeG (v := .pointer (some ⟨ab A0, ao A0 + (Int.toNat (z47 - 1)) * 1, none⟩)) (rs := []) 11 rfl rfl rfl (dT h64) (by kernel_rfl) (fun _ ⟨_, H9⟩ => Yl.indexAddr (El37) rfl rfl ((H9.rds (i := 0) rfl).addr (i := Int.toNat (z47 - 1)) (by omega)) (by omega)) (GX.takeG (v := .int .u64 ((x67 : Nat) : Int)) (rs := []) 12 rfl rfl rfl (dT h64) (by kernel_rfl) (fun _ ⟨_, H9⟩ => Yl.load rfl (Lds.one Try.isAgg30 (((H9.rds (i := 0) rfl).elem eN_len hx68 (by decide)).at_ (k := 0) rfl))) ?_)
 obtain ⟨r74, hr75⟩ : ∃ q, cmp_Less_uint64 x65 x67 = q := ⟨_, rfl⟩
 obtain ⟨D69, HP70, ro71, bk72, rr73⟩ := Own.enter0 H63
 refine GX.doG 13 rfl rfl rfl (dT h64) (by kernel_rfl) (Do.call Try.call78 rfl (cmp_Less_uint64_ok _ _ x65 x67 r74 HP70 hr75) ?_)
 rintro _ w76 ⟨rfl, HQ77⟩
 have H78 := bk72 _ _ HQ77
 refine ⟨.inr ⟨_, H78⟩, ?_⟩
 refine GX.takeG (v := .bool (!r74)) (rs := []) 14 rfl rfl rfl (dT h64) (by kernel_rfl) (fun _ _ => yk) (GX.take (v := .bool (!r74)) (rs := []) 15 rfl (by kernel_rfl) (fun _ _ => Yl.pickT rfl (dT h64) rfl) (GX.done (by kernel_rfl) (Fin.then ?_)))
 rcases Bool.eq_false_or_eq_true (r74) with h79 | h79
 refine jF (cn h79) (Wp.exit (Fin.thenX (Fin.thenX (Fin.blockX ?_))))
 have H80 := H78.pk [0]
 exact Fin.join z47 ⟨rfl, rfl, rfl, rfl, rfl, rfl, trivial⟩ (dm46.2 ⟨H80, by omega, by omega, bnd_of (et (hq57) (et (ip h64) (et (bnd_of (getD_of hx66)) (et (bnd_of (getD_of hx68)) (et (bnd_of hr75) (ip h79))))))⟩)
 refine jT (cn h79) (sk (bo (Wp.region (Mz rfl (fw (.int .i64 (z47 + 1)) (Yl.int (e := IntKind.i64.wrap (z47 + 1)) yk (by rw [IntWalk.i64_in _ (by omega)])) (Az rfl (WL.nil (bN ?_))))))))
 have H81 := H78.pk [0]
 exact Fin.round (z47 + 1, f60) ⟨rfl, rfl, rfl, rfl, rfl, rfl, trivial⟩ (dm56.2 ⟨H81, by omega, by omega, et (hq57) (et (ip h64) (et (bnd_of (getD_of hx66)) (et (bnd_of (getD_of hx68)) (et (bnd_of hr75) (ifF h79)))))⟩) (by show f60 < f60 + 1; omega)
 refine GX.skipG (rs := []) 4 rfl rfl rfl (dF h64) (by kernel_rfl) (GX.skipG (rs := []) 5 rfl rfl rfl (dF h64) (by kernel_rfl) (GX.skipG (rs := []) 6 rfl rfl rfl (dF h64) (by kernel_rfl) (GX.skipG (rs := []) 7 rfl rfl rfl (dF h64) (by kernel_rfl) (GX.skipG (rs := []) 8 rfl rfl rfl (dF h64) (by kernel_rfl) (GX.skipG (rs := []) 9 rfl rfl rfl (dF h64) (by kernel_rfl) (GX.skipG (rs := []) 10 rfl rfl rfl (dF h64) (by kernel_rfl) (GX.skipG (rs := []) 11 rfl rfl rfl (dF h64) (by kernel_rfl) (GX.skipG (rs := []) 12 rfl rfl rfl (dF h64) (by kernel_rfl) (GX.skipG (rs := []) 13 rfl rfl rfl (dF h64) (by kernel_rfl) (GX.skipG (rs := []) 14 rfl rfl rfl (dF h64) (by kernel_rfl) (GX.take (v := .bool false) (rs := []) 15 rfl (by kernel_rfl) (fun _ _ => Yl.pickF rfl (dF h64) rfl) (GX.done (by kernel_rfl) (Fin.then (jf (Wp.exit (Fin.thenX (Fin.thenX (Fin.blockX ?_))))))))))))))))))
 have H82 := H63.pk [0]
 exact Fin.join z47 ⟨rfl, rfl, rfl, rfl, rfl, rfl, trivial⟩ (dm46.2 ⟨H82, by omega, by omega, bnd_of (et (hq57) (iN h64))⟩)
 rintro z43 w83 hf85
 show Wp _ _ _ [(7, .int .i64 z43), (6, .bool false), (8, .int .i64 ((k22 : Nat) : Int)), (0, .slice A0 l0.length c0), (1, .int .i64 p1), (2, .int .i64 p2)] _ _
 obtain ⟨H84, hi87, hi88, hj86⟩ := dm46.1 hf85
 refine Wp.seq (sr (Mz rfl (Mz rfl (Kz (.bool (decide (z43 = p2))) (nt ?_)))))
 by_cases h89 : z43 = p2
 refine jT (dT h89) (sr (An rfl (rt (tR (bR (tR (tR (bR (tR (rs ?_))))))))))
 have H90 := H84.pk [0]
 have e : slices_partialInsertionSortOrdered_uint64 l0 p1 p2 = (true, l23) := lp_r (et (hq32) (et (congrArg (fun q => slices_partialInsertionSortOrdered_uint64_L0 p1 p2 q z21 l23) (sub_at (n := 5) (i := k22) (by omega))) (lpS_r (et (bnd_of hj86) (ip h89)))))
 obtain ⟨rfl, rfl⟩ := pj2 (e.symm.trans hr)
 exact ⟨rfl, H90, (by first | rfl | omega | (simp only [List.length_set] <;> omega))⟩
 refine jF (dF h89) (sk (Wp.seq (sr (Mz rfl (Mz rfl (fw (.int .i64 (p2 - p1)) (Yl.int (e := IntKind.i64.wrap (p2 - p1)) yk (by rw [IntWalk.i64_in _ (by omega)])) (Kz (.bool (decide (p2 - p1 < 50))) (nt ?_))))))))
 by_cases h91 : p2 - p1 < 50
 refine jT (dT h91) (sr (An rfl (rt (tR (bR (tR (tR (bR (tR (rs ?_))))))))))
 have H92 := H84.pk [0]
 have e : slices_partialInsertionSortOrdered_uint64 l0 p1 p2 = (false, l23) := lp_r (et (hq32) (et (congrArg (fun q => slices_partialInsertionSortOrdered_uint64_L0 p1 p2 q z21 l23) (sub_at (n := 5) (i := k22) (by omega))) (lpS_r (et (bnd_of hj86) (et (iN h89) (ip h91))))))
 obtain ⟨rfl, rfl⟩ := pj2 (e.symm.trans hr)
 exact ⟨rfl, H92, (by first | rfl | omega | (simp only [List.length_set] <;> omega))⟩
 refine jF (dF h91) (sk (Wp.seq ?_))
 have H94 := H84.drew
 refine Wp.drawnX [15, 17] (fun W => ∃ L', Own w D W ([row A0 l0.length c0 (List.flatMap (eN .u64) l23) 30 1] ++ L')) (by kernel_rfl) (by kernel_rfl) (NoP.then (NoP.block (NoP.then (NoP.then (NoP.block (NoP.then NoP.base)))))) ⟨_, H94⟩ ?_
 revert H94
 generalize World.drew w83 = w93
 intro H94
 refine GX.take (v := .slice A0 l0.length c0) (rs := [[], []]) 0 rfl (by kernel_rfl) (fun _ _ => Yl.move rfl) (GX.take (v := .int .i64 ((Int.toNat z43 : Nat) : Int)) (rs := [[], []]) 1 rfl (by kernel_rfl) (fun _ _ => Yl.int (e := z43) (Yl.move rfl) (by omega)) (GX.takeA (v := .slice A0 l0.length c0) 2 rfl (by kernel_rfl) (fun _ => Yl.move rfl) (GX.takeA (v := .int .i64 z43) 3 rfl (by kernel_rfl) (fun _ => Yl.move rfl) (GX.takeA (v := .int .i64 ((Int.toNat (z43 - 1) : Nat) : Int)) 4 rfl (by kernel_rfl) (fun _ => Yl.int (e := IntKind.i64.wrap (z43 - 1)) yk (by rw [IntWalk.i64_in _ (by omega)]; omega)) (GX.take (v := .slice A0 l0.length c0) (rs := [[], []]) 5 rfl (by kernel_rfl) (fun _ _ => Yl.move rfl) (GX.take (v := .int .i64 z43) (rs := [[], []]) 6 rfl (by kernel_rfl) (fun _ _ => Yl.move rfl) (GX.take (v := .int .i64 ((Int.toNat (z43 - 1) : Nat) : Int)) (rs := [[], []]) 7 rfl (by kernel_rfl) (fun _ _ => Yl.int (e := IntKind.i64.wrap (z43 - 1)) yk (by rw [IntWalk.i64_in _ (by omega)]; omega)) ?_)))))))
 obtain ⟨x95, hx96⟩ := at_of (ls := l23) (i := Int.toNat (z43 - 1)) (by first | omega | (simp; done) | (simp; omega))
 refine GX.take (v := .pointer (some ⟨ab A0, ao A0 + (Int.toNat (z43 - 1)) * 1, none⟩)) (rs := [[], []]) 8 rfl (by kernel_rfl) (fun _ ⟨_, H9⟩ => Yl.indexAddr (El37) rfl rfl ((H9.rds (i := 0) rfl).addr (i := Int.toNat (z43 - 1)) (by omega)) (by omega)) (GX.take (v := .int .u64 ((x95 : Nat) : Int)) (rs := [[], []]) 9 rfl (by kernel_rfl) (fun _ ⟨_, H9⟩ => Yl.load rfl (Lds.one Try.isAgg30 (((H9.rds (i := 0) rfl).elem eN_len hx96 (by decide)).at_ (k := 0) rfl))) (GX.take (v := .slice A0 l0.length c0) (rs := [[13, 12], []]) 10 rfl (by kernel_rfl) (fun _ _ => Yl.move rfl) (GX.take (v := .int .i64 ((Int.toNat z43 : Nat) : Int)) (rs := [[13, 12], []]) 11 rfl (by kernel_rfl) (fun _ _ => Yl.int (e := z43) (Yl.move rfl) (by omega)) ?_)))
 obtain ⟨x97, hx98⟩ := at_of (ls := l23) (i := Int.toNat z43) (by first | omega | (simp; done) | (simp; omega))
 refine GX.take (v := .pointer (some ⟨ab A0, ao A0 + (Int.toNat z43) * 1, none⟩)) (rs := [[13], []]) 12 rfl (by kernel_rfl) (fun _ ⟨_, H9⟩ => Yl.indexAddr (El37) rfl rfl ((H9.rds (i := 0) rfl).addr (i := Int.toNat z43) (by omega)) (by omega)) (GX.take (v := .int .u64 ((x97 : Nat) : Int)) (rs := [[], []]) 13 rfl (by kernel_rfl) (fun _ ⟨_, H9⟩ => Yl.load rfl (Lds.one Try.isAgg30 (((H9.rds (i := 0) rfl).elem eN_len hx98 (by decide)).at_ (k := 0) rfl))) (GX.take (v := .pointer (some ⟨ab A0, ao A0 + (Int.toNat z43) * 1, none⟩)) (rs := [[], []]) 14 rfl (by kernel_rfl) (fun _ ⟨_, H9⟩ => Yl.indexAddr (El37) rfl rfl ((H9.rds (i := 0) rfl).addr (i := Int.toNat z43) (by omega)) (by omega)) ?_))
 refine GX.do0 15 rfl (by kernel_rfl) (Do.storeRow (vs := [.int .u64 ((x95 : Nat) : Int)]) (o := (Int.toNat z43) * 1 + 0) (q := ao A0 + (Int.toNat z43) * 1) H94 rfl (by omega) rfl Try.sizeOf30 rfl rfl (Nat.le_of_ble_eq_true rfl) (store_fits eN_len hx98 (Nat.le_of_ble_eq_true rfl)) (flat_set (y := x95) eN_len rfl (Nat.le_of_ble_eq_true rfl) hx98) ?_)
 intro w99 H100
 refine ⟨.inl (by kernel_rfl), ?_⟩
 obtain ⟨x101, hx102⟩ := at_of (ls := l23) (i := Int.toNat (z43 - 1)) (by first | omega | (simp; done) | (simp; omega))
 obtain ⟨x103, hx104⟩ := rds_at (ls := (List.set l23 (Int.toNat z43) x95)) (i := Int.toNat (z43 - 1)) eN_len (by decide) (H100.rds (i := 0) rfl) (by first | omega | (simp; done) | (simp; omega))
 refine GX.takeA (v := .pointer (some ⟨ab A0, ao A0 + (Int.toNat (z43 - 1)) * 1, none⟩)) 16 rfl (by kernel_rfl) (fun _ => Yl.indexAddr (El37) rfl rfl ((H100.rds (i := 0) rfl).addr (i := Int.toNat (z43 - 1)) (by omega)) (by omega)) ?_
 obtain ⟨x105, hx106⟩ := at_of (ls := (List.set l23 (Int.toNat z43) x95)) (i := Int.toNat (z43 - 1)) (by first | omega | (simp; done) | (simp; omega))
 refine GX.do0 17 rfl (by kernel_rfl) (Do.storeRow (vs := [.int .u64 ((x97 : Nat) : Int)]) (o := (Int.toNat (z43 - 1)) * 1 + 0) (q := ao A0 + (Int.toNat (z43 - 1)) * 1) H100 rfl (by omega) rfl Try.sizeOf30 rfl rfl (Nat.le_of_ble_eq_true rfl) (store_fits eN_len hx106 (Nat.le_of_ble_eq_true rfl)) (flat_set (y := x97) eN_len rfl (Nat.le_of_ble_eq_true rfl) hx106) ?_)
 intro w107 H108
 refine ⟨.inl (by kernel_rfl), ?_⟩
 refine GX.done (by kernel_rfl) (Fin.then (Wp.seq (sr (Mz rfl (Mz rfl (fw (.int .i64 (z43 - p1)) (Yl.int (e := IntKind.i64.wrap (z43 - p1)) yk (by rw [IntWalk.i64_in _ (by omega)])) (Kz (.bool (decide (z43 - p1 ≥ 2))) (nt ?_))))))))
 obtain ⟨I110, hI111⟩ : ∃ q : (List Nat) → World → Prop, q = fun (i : (List Nat)) w' => Own w D w' [row A0 l0.length c0 (List.flatMap (eN .u64) i) 30 1] ∧ (i.length = l0.length ∧ (if z43 - p1 ≥ 2 then bnd (slices_partialInsertionSortOrdered_uint64_L2 ((Int.toNat (z43 - 1)) + 1) (z43 - 1) (List.set (List.set l23 (Int.toNat z43) x95) (Int.toNat (z43 - 1)) x97)) fun sLrLsJjJaffbbbbJjtL => sLrLsJjJaffbbbbJjtL else (List.set (List.set l23 (Int.toNat z43) x95) (Int.toNat (z43 - 1)) x97)) = i) := ⟨_, rfl⟩
 have dm112 : ∀ {l109 : List Nat} {w' : World}, I110 l109 w' ↔ Own w D w' [row A0 l0.length c0 (List.flatMap (eN .u64) l109) 30 1] ∧ l109.length = l0.length ∧ (if z43 - p1 ≥ 2 then bnd (slices_partialInsertionSortOrdered_uint64_L2 ((Int.toNat (z43 - 1)) + 1) (z43 - 1) (List.set (List.set l23 (Int.toNat z43) x95) (Int.toNat (z43 - 1)) x97)) fun sLrLsJjJaffbbbbJjtL => sLrLsJjJaffbbbbJjtL else (List.set (List.set l23 (Int.toNat z43) x95) (Int.toNat (z43 - 1)) x97)) = l109 := by intros; subst hI111; exact Iff.rfl
 refine Wp.joinT (fun i : (List Nat) => [(7, .int .i64 z43), (6, .bool false), (8, .int .i64 ((k22 : Nat) : Int)), (0, .slice A0 l0.length c0), (1, .int .i64 p1), (2, .int .i64 p2)]) I110 ?_ ?_
 by_cases h113 : z43 - p1 ≥ 2
 refine jT (dT h113) (sr (Mz rfl (fw (.int .i64 (z43 - 1)) (Yl.int (e := IntKind.i64.wrap (z43 - 1)) yk (by rw [IntWalk.i64_in _ (by omega)])) (An rfl (bo ?_)))))
 have H118 := H108.pk [0]
 obtain ⟨I122, hI123⟩ : ∃ q : (Int × (List Nat) × Nat) → World → Prop, q = fun (i : Int × (List Nat) × Nat) w' => Own w D w' [row A0 l0.length c0 (List.flatMap (eN .u64) i.2.1) 30 1] ∧ (i.2.1.length = l0.length ∧ (0 ≤ i.1 ∧ i.1 < p2) ∧ Int.toNat i.1 < i.2.2 ∧ slices_partialInsertionSortOrdered_uint64_L2 ((Int.toNat (z43 - 1)) + 1) (z43 - 1) (List.set (List.set l23 (Int.toNat z43) x95) (Int.toNat (z43 - 1)) x97) = slices_partialInsertionSortOrdered_uint64_L2 i.2.2 i.1 i.2.1) := ⟨_, rfl⟩
 have dm124 : ∀ {z114 : Int} {l115 : List Nat} {f117 : Nat} {w' : World}, I122 (z114, l115, f117) w' ↔ Own w D w' [row A0 l0.length c0 (List.flatMap (eN .u64) l115) 30 1] ∧ l115.length = l0.length ∧ (0 ≤ z114 ∧ z114 < p2) ∧ Int.toNat z114 < f117 ∧ slices_partialInsertionSortOrdered_uint64_L2 ((Int.toNat (z43 - 1)) + 1) (z43 - 1) (List.set (List.set l23 (Int.toNat z43) x95) (Int.toNat (z43 - 1)) x97) = slices_partialInsertionSortOrdered_uint64_L2 f117 z114 l115 := by intros; subst hI123; exact Iff.rfl
 refine Wp.loop (fun i : Int × (List Nat) × Nat => [(9, .int .i64 i.1), (7, .int .i64 z43), (6, .bool false), (8, .int .i64 ((k22 : Nat) : Int)), (0, .slice A0 l0.length c0), (1, .int .i64 p1), (2, .int .i64 p2)]) I122 (fun i => i.2.2) (z43 - 1, (List.set (List.set l23 (Int.toNat z43) x95) (Int.toNat (z43 - 1)) x97), (Int.toNat (z43 - 1)) + 1) ⟨rfl, rfl, rfl, rfl, rfl, rfl, rfl, trivial⟩ (dm124.2 ⟨H118, by first | omega | (simp only [List.length_set] <;> omega) | (simp only [List.length_replicate]), by omega, by omega, rfl⟩) ?_
 rintro ⟨z114, l115, f117⟩ w119 hf121
 show Wp _ _ _ [(9, .int .i64 z114), (7, .int .i64 z43), (6, .bool false), (8, .int .i64 ((k22 : Nat) : Int)), (0, .slice A0 l0.length c0), (1, .int .i64 p1), (2, .int .i64 p2)] _ _
 obtain ⟨H120, hi126, hi127, hi128, hq125⟩ := dm124.1 hf121
 obtain ⟨f129, hf130⟩ : ∃ q, f117 = q + 1 := ⟨f117 - 1, by omega⟩
 subst hf130
 refine Wp.seq (sr (Mz rfl (Kz (.bool (decide (z114 ≥ 1))) (nt ?_))))
 by_cases h131 : z114 ≥ 1
 refine jT (dT h131) (sk (Wp.seq (bo (Wp.seq (Wp.seq ?_)))))
 have H133 := H120.drew
 refine Wp.drawnX [] (fun W => ∃ L', Own w D W ([row A0 l0.length c0 (List.flatMap (eN .u64) l115) 30 1] ++ L')) (by kernel_rfl) (by kernel_rfl) (NoP.then (NoP.then (NoP.block (NoP.then (NoP.then (NoP.block (NoP.then (NoP.block (NoP.then (NoP.then (NoP.block (NoP.then NoP.base)))))))))))) ⟨_, H133⟩ ?_
 revert H133
 generalize World.drew w119 = w132
 intro H133
 refine GX.take (v := .slice A0 l0.length c0) (rs := []) 0 rfl (by kernel_rfl) (fun _ _ => Yl.move rfl) (GX.take (v := .int .i64 ((Int.toNat z114 : Nat) : Int)) (rs := []) 1 rfl (by kernel_rfl) (fun _ _ => Yl.int (e := z114) (Yl.move rfl) (by omega)) ?_)
 obtain ⟨x134, hx135⟩ := at_of (ls := l115) (i := Int.toNat z114) (by first | omega | (simp; done) | (simp; omega))
 refine GX.take (v := .pointer (some ⟨ab A0, ao A0 + (Int.toNat z114) * 1, none⟩)) (rs := []) 2 rfl (by kernel_rfl) (fun _ ⟨_, H9⟩ => Yl.indexAddr (El37) rfl rfl ((H9.rds (i := 0) rfl).addr (i := Int.toNat z114) (by omega)) (by omega)) (GX.take (v := .int .u64 ((x134 : Nat) : Int)) (rs := []) 3 rfl (by kernel_rfl) (fun _ ⟨_, H9⟩ => Yl.load rfl (Lds.one Try.isAgg30 (((H9.rds (i := 0) rfl).elem eN_len hx135 (by decide)).at_ (k := 0) rfl))) (GX.take (v := .slice A0 l0.length c0) (rs := []) 4 rfl (by kernel_rfl) (fun _ _ => Yl.move rfl) (GX.take (v := .int .i64 z114) (rs := []) 5 rfl (by kernel_rfl) (fun _ _ => Yl.move rfl) (GX.take (v := .int .i64 ((Int.toNat (z114 - 1) : Nat) : Int)) (rs := []) 6 rfl (by kernel_rfl) (fun _ _ => Yl.int (e := IntKind.i64.wrap (z114 - 1)) yk (by rw [IntWalk.i64_in _ (by omega)]; omega)) ?_))))
 obtain ⟨x136, hx137⟩ := at_of (ls := l115) (i := Int.toNat (z114 - 1)) (by first | omega | (simp; done) | (simp; omega))
 refine GX.take (v := .pointer (some ⟨ab A0, ao A0 + (Int.toNat (z114 - 1)) * 1, none⟩)) (rs := []) 7 rfl (by kernel_rfl) (fun _ ⟨_, H9⟩ => Yl.indexAddr (El37) rfl rfl ((H9.rds (i := 0) rfl).addr (i := Int.toNat (z114 - 1)) (by omega)) (by omega)) (GX.take (v := .int .u64 ((x136 : Nat) : Int)) (rs := []) 8 rfl (by kernel_rfl) (fun _ ⟨_, H9⟩ => Yl.load rfl (Lds.one Try.isAgg30 (((H9.rds (i := 0) rfl).elem eN_len hx137 (by decide)).at_ (k := 0) rfl))) ?_)
 obtain ⟨r143, hr144⟩ : ∃ q, cmp_Less_uint64 x134 x136 = q := ⟨_, rfl⟩
 obtain ⟨D138, HP139, ro140, bk141, rr142⟩ := Own.enter0 H133
 refine GX.do 9 rfl (by kernel_rfl) (Do.call Try.call78 rfl (cmp_Less_uint64_ok _ _ x134 x136 r143 HP139 hr144) ?_)
 rintro _ w145 ⟨rfl, HQ146⟩
 have H147 := bk141 _ _ HQ146
 refine ⟨.inr ⟨_, H147⟩, ?_⟩
 refine GX.take (v := .bool (!r143)) (rs := []) 10 rfl (by kernel_rfl) (fun _ _ => yk) (GX.done (by kernel_rfl) (Fin.then ?_))
 rcases Bool.eq_false_or_eq_true (r143) with h148 | h148
 refine jF (cn h148) (sk ?_)
 have H150 := H147.drew
 refine Wp.drawnX [15, 17] (fun W => ∃ L', Own w D W ([row A0 l0.length c0 (List.flatMap (eN .u64) l115) 30 1] ++ L')) (by kernel_rfl) (by kernel_rfl) (NoP.block (NoP.then (NoP.then (NoP.block (NoP.then (NoP.block (NoP.then (NoP.then (NoP.block (NoP.then NoP.base)))))))))) ⟨_, H150⟩ ?_
 revert H150
 generalize World.drew w145 = w149
 intro H150
 refine GX.take (v := .slice A0 l0.length c0) (rs := [[], []]) 0 rfl (by kernel_rfl) (fun _ _ => Yl.move rfl) (GX.take (v := .int .i64 ((Int.toNat z114 : Nat) : Int)) (rs := [[], []]) 1 rfl (by kernel_rfl) (fun _ _ => Yl.int (e := z114) (Yl.move rfl) (by omega)) (GX.takeA (v := .slice A0 l0.length c0) 2 rfl (by kernel_rfl) (fun _ => Yl.move rfl) (GX.takeA (v := .int .i64 z114) 3 rfl (by kernel_rfl) (fun _ => Yl.move rfl) (GX.takeA (v := .int .i64 ((Int.toNat (z114 - 1) : Nat) : Int)) 4 rfl (by kernel_rfl) (fun _ => Yl.int (e := IntKind.i64.wrap (z114 - 1)) yk (by rw [IntWalk.i64_in _ (by omega)]; omega)) (GX.take (v := .slice A0 l0.length c0) (rs := [[], []]) 5 rfl (by kernel_rfl) (fun _ _ => Yl.move rfl) (GX.take (v := .int .i64 z114) (rs := [[], []]) 6 rfl (by kernel_rfl) (fun _ _ => Yl.move rfl) (GX.take (v := .int .i64 ((Int.toNat (z114 - 1) : Nat) : Int)) (rs := [[], []]) 7 rfl (by kernel_rfl) (fun _ _ => Yl.int (e := IntKind.i64.wrap (z114 - 1)) yk (by rw [IntWalk.i64_in _ (by omega)]; omega)) (GX.take (v := .pointer (some ⟨ab A0, ao A0 + (Int.toNat (z114 - 1)) * 1, none⟩)) (rs := [[], []]) 8 rfl (by kernel_rfl) (fun _ ⟨_, H9⟩ => Yl.indexAddr (El37) rfl rfl ((H9.rds (i := 0) rfl).addr (i := Int.toNat (z114 - 1)) (by omega)) (by omega)) (GX.take (v := .int .u64 ((x136 : Nat) : Int)) (rs := [[], []]) 9 rfl (by kernel_rfl) (fun _ ⟨_, H9⟩ => Yl.load rfl (Lds.one Try.isAgg30 (((H9.rds (i := 0) rfl).elem eN_len hx137 (by decide)).at_ (k := 0) rfl))) (GX.take (v := .slice A0 l0.length c0) (rs := [[13, 12], []]) 10 rfl (by kernel_rfl) (fun _ _ => Yl.move rfl) (GX.take (v := .int .i64 ((Int.toNat z114 : Nat) : Int)) (rs := [[13, 12], []]) 11 rfl (by kernel_rfl) (fun _ _ => Yl.int (e := z114) (Yl.move rfl) (by omega)) (GX.take (v := .pointer (some ⟨ab A0, ao A0 + (Int.toNat z114) * 1, none⟩)) (rs := [[13], []]) 12 rfl (by kernel_rfl) (fun _ ⟨_, H9⟩ => Yl.indexAddr (El37) rfl rfl ((H9.rds (i := 0) rfl).addr (i := Int.toNat z114) (by omega)) (by omega)) (GX.take (v := .int .u64 ((x134 : Nat) : Int)) (rs := [[], []]) 13 rfl (by kernel_rfl) (fun _ ⟨_, H9⟩ => Yl.load rfl (Lds.one Try.isAgg30 (((H9.rds (i := 0) rfl).elem eN_len hx135 (by decide)).at_ (k := 0) rfl))) (GX.take (v := .pointer (some ⟨ab A0, ao A0 + (Int.toNat z114) * 1, none⟩)) (rs := [[], []]) 14 rfl (by kernel_rfl) (fun _ ⟨_, H9⟩ => Yl.indexAddr (El37) rfl rfl ((H9.rds (i := 0) rfl).addr (i := Int.toNat z114) (by omega)) (by omega)) ?_))))))))))))))
 refine GX.do0 15 rfl (by kernel_rfl) (Do.storeRow (vs := [.int .u64 ((x136 : Nat) : Int)]) (o := (Int.toNat z114) * 1 + 0) (q := ao A0 + (Int.toNat z114) * 1) H150 rfl (by omega) rfl Try.sizeOf30 rfl rfl (Nat.le_of_ble_eq_true rfl) (store_fits eN_len hx135 (Nat.le_of_ble_eq_true rfl)) (flat_set (y := x136) eN_len rfl (Nat.le_of_ble_eq_true rfl) hx135) ?_)
 intro w151 H152
 refine ⟨.inl (by kernel_rfl), ?_⟩
 obtain ⟨x153, hx154⟩ := at_of (ls := l115) (i := Int.toNat (z114 - 1)) (by first | omega | (simp; done) | (simp; omega))
 obtain ⟨x155, hx156⟩ := rds_at (ls := (List.set l115 (Int.toNat z114) x136)) (i := Int.toNat (z114 - 1)) eN_len (by decide) (H152.rds (i := 0) rfl) (by first | omega | (simp; done) | (simp; omega))
 refine GX.takeA (v := .pointer (some ⟨ab A0, ao A0 + (Int.toNat (z114 - 1)) * 1, none⟩)) 16 rfl (by kernel_rfl) (fun _ => Yl.indexAddr (El37) rfl rfl ((H152.rds (i := 0) rfl).addr (i := Int.toNat (z114 - 1)) (by omega)) (by omega)) ?_
 obtain ⟨x157, hx158⟩ := at_of (ls := (List.set l115 (Int.toNat z114) x136)) (i := Int.toNat (z114 - 1)) (by first | omega | (simp; done) | (simp; omega))
 refine GX.do0 17 rfl (by kernel_rfl) (Do.storeRow (vs := [.int .u64 ((x134 : Nat) : Int)]) (o := (Int.toNat (z114 - 1)) * 1 + 0) (q := ao A0 + (Int.toNat (z114 - 1)) * 1) H152 rfl (by omega) rfl Try.sizeOf30 rfl rfl (Nat.le_of_ble_eq_true rfl) (store_fits eN_len hx158 (Nat.le_of_ble_eq_true rfl)) (flat_set (y := x134) eN_len rfl (Nat.le_of_ble_eq_true rfl) hx158) ?_)
 intro w159 H160
 refine ⟨.inl (by kernel_rfl), ?_⟩
 refine GX.done (by kernel_rfl) (bN (Fin.then (Wp.region (Mz rfl (fw (.int .i64 (z114 - 1)) (Yl.int (e := IntKind.i64.wrap (z114 - 1)) yk (by rw [IntWalk.i64_in _ (by omega)])) (Az rfl (WL.nil ?_)))))))
 have H161 := H160.pk [0]
 exact Fin.round (z114 - 1, (List.set (List.set l115 (Int.toNat z114) x136) (Int.toNat (z114 - 1)) x134), f129) ⟨rfl, rfl, rfl, rfl, rfl, rfl, rfl, trivial⟩ (dm124.2 ⟨H161, by first | omega | (simp only [List.length_set] <;> omega) | (simp only [List.length_replicate]), by omega, by omega, Eq.trans (hq125) (Eq.trans (if_pos h131) (Eq.trans (bnd_of (getD_of hx135)) (Eq.trans (bnd_of (getD_of hx137)) (Eq.trans (bnd_of hr144) (if_pos h148)))))⟩) (by show f129 < f129 + 1; omega)
 refine jT (cn h148) (Wp.exit (Fin.thenX (Fin.blockO rfl (Fin.thenX (Fin.thenX (Fin.blockX ?_))))))
 have H162 := H147.pk [0]
 exact Fin.join l115 ⟨rfl, rfl, rfl, rfl, rfl, rfl, trivial⟩ (dm112.2 ⟨H162, by first | omega | (simp only [List.length_set] <;> omega) | (simp only [List.length_replicate]), Eq.trans (if_pos h113) (bnd_of (Eq.trans (hq125) (Eq.trans (if_pos h131) (Eq.trans (bnd_of (getD_of hx135)) (Eq.trans (bnd_of (getD_of hx137)) (Eq.trans (bnd_of hr144) (ifF h148)))))))⟩)
 refine jF (dF h131) (Wp.exit (Fin.thenX (Fin.thenX (Fin.blockX ?_))))
 have H163 := H120.pk [0]
 exact Fin.join l115 ⟨rfl, rfl, rfl, rfl, rfl, rfl, trivial⟩ (dm112.2 ⟨H163, by first | omega | (simp only [List.length_set] <;> omega) | (simp only [List.length_replicate]), Eq.trans (if_pos h113) (bnd_of (Eq.trans (hq125) (if_neg h131)))⟩)
 refine jF (dF h113) (Wp.skip ?_)
 have H164 := H108.pk [0]
 exact Fin.join (List.set (List.set l23 (Int.toNat z43) x95) (Int.toNat (z43 - 1)) x97) ⟨rfl, rfl, rfl, rfl, rfl, rfl, trivial⟩ (dm112.2 ⟨H164, by first | omega | (simp only [List.length_set] <;> omega) | (simp only [List.length_replicate]), if_neg h113⟩)
 rintro l109 w165 hf167
 show Wp _ _ _ [(7, .int .i64 z43), (6, .bool false), (8, .int .i64 ((k22 : Nat) : Int)), (0, .slice A0 l0.length c0), (1, .int .i64 p1), (2, .int .i64 p2)] _ _
 obtain ⟨H166, hi169, hj168⟩ := dm112.1 hf167
 refine sr (Mz rfl (Mz rfl (fw (.int .i64 (p2 - z43)) (Yl.int (e := IntKind.i64.wrap (p2 - z43)) yk (by rw [IntWalk.i64_in _ (by omega)])) (Kz (.bool (decide (p2 - z43 ≥ 2))) (nt ?_)))))
 by_cases h170 : p2 - z43 ≥ 2
 refine jT (dT h170) (sr (Mz rfl (fw (.int .i64 (z43 + 1)) (Yl.int (e := IntKind.i64.wrap (z43 + 1)) yk (by rw [IntWalk.i64_in _ (by omega)])) (An rfl (bo ?_)))))
 have H175 := H166.pk [0]
 obtain ⟨I179, hI180⟩ : ∃ q : (Int × (List Nat) × Nat) → World → Prop, q = fun (i : Int × (List Nat) × Nat) w' => Own w D w' [row A0 l0.length c0 (List.flatMap (eN .u64) i.2.1) 30 1] ∧ (i.2.1.length = l0.length ∧ 1 ≤ i.1 ∧ Int.toNat (p2 - i.1) < i.2.2 ∧ slices_partialInsertionSortOrdered_uint64_L3 p2 z43 ((Int.toNat (p2 - (z43 + 1))) + 1) (z43 + 1) l109 = slices_partialInsertionSortOrdered_uint64_L3 p2 z43 i.2.2 i.1 i.2.1) := ⟨_, rfl⟩
 have dm181 : ∀ {z171 : Int} {l172 : List Nat} {f174 : Nat} {w' : World}, I179 (z171, l172, f174) w' ↔ Own w D w' [row A0 l0.length c0 (List.flatMap (eN .u64) l172) 30 1] ∧ l172.length = l0.length ∧ 1 ≤ z171 ∧ Int.toNat (p2 - z171) < f174 ∧ slices_partialInsertionSortOrdered_uint64_L3 p2 z43 ((Int.toNat (p2 - (z43 + 1))) + 1) (z43 + 1) l109 = slices_partialInsertionSortOrdered_uint64_L3 p2 z43 f174 z171 l172 := by intros; subst hI180; exact Iff.rfl
 refine Wp.loop (fun i : Int × (List Nat) × Nat => [(10, .int .i64 i.1), (7, .int .i64 z43), (6, .bool false), (8, .int .i64 ((k22 : Nat) : Int)), (0, .slice A0 l0.length c0), (1, .int .i64 p1), (2, .int .i64 p2)]) I179 (fun i => i.2.2) (z43 + 1, l109, (Int.toNat (p2 - (z43 + 1))) + 1) ⟨rfl, rfl, rfl, rfl, rfl, rfl, rfl, trivial⟩ (dm181.2 ⟨H175, by first | omega | (simp only [List.length_set] <;> omega) | (simp only [List.length_replicate]), by omega, by omega, rfl⟩) ?_
 rintro ⟨z171, l172, f174⟩ w176 hf178
 show Wp _ _ _ [(10, .int .i64 z171), (7, .int .i64 z43), (6, .bool false), (8, .int .i64 ((k22 : Nat) : Int)), (0, .slice A0 l0.length c0), (1, .int .i64 p1), (2, .int .i64 p2)] _ _
 obtain ⟨H177, hi183, hi184, hi185, hq182⟩ := dm181.1 hf178
 obtain ⟨f186, hf187⟩ : ∃ q, f174 = q + 1 := ⟨f174 - 1, by omega⟩
 subst hf187
 refine Wp.seq (sr (Mz rfl (Mz rfl (Kz (.bool (decide (z171 < p2))) (nt ?_)))))
 by_cases h188 : z171 < p2
 refine jT (dT h188) (sk (Wp.seq (bo (Wp.seq (Wp.seq ?_)))))
 have H190 := H177.drew
 refine Wp.drawnX [] (fun W => ∃ L', Own w D W ([row A0 l0.length c0 (List.flatMap (eN .u64) l172) 30 1] ++ L')) (by kernel_rfl) (by kernel_rfl) (NoP.then (NoP.then (NoP.block (NoP.then (NoP.then (NoP.block (NoP.block (NoP.then (NoP.then (NoP.block (NoP.then NoP.base))))))))))) ⟨_, H190⟩ ?_
 revert H190
 generalize World.drew w176 = w189
 intro H190
 refine GX.take (v := .slice A0 l0.length c0) (rs := []) 0 rfl (by kernel_rfl) (fun _ _ => Yl.move rfl) (GX.take (v := .int .i64 ((Int.toNat z171 : Nat) : Int)) (rs := []) 1 rfl (by kernel_rfl) (fun _ _ => Yl.int (e := z171) (Yl.move rfl) (by omega)) ?_)
 obtain ⟨x191, hx192⟩ := at_of (ls := l172) (i := Int.toNat z171) (by first | omega | (simp; done) | (simp; omega))
 refine GX.take (v := .pointer (some ⟨ab A0, ao A0 + (Int.toNat z171) * 1, none⟩)) (rs := []) 2 rfl (by kernel_rfl) (fun _ ⟨_, H9⟩ => Yl.indexAddr (El37) rfl rfl ((H9.rds (i := 0) rfl).addr (i := Int.toNat z171) (by omega)) (by omega)) (GX.take (v := .int .u64 ((x191 : Nat) : Int)) (rs := []) 3 rfl (by kernel_rfl) (fun _ ⟨_, H9⟩ => Yl.load rfl (Lds.one Try.isAgg30 (((H9.rds (i := 0) rfl).elem eN_len hx192 (by decide)).at_ (k := 0) rfl))) (GX.take (v := .slice A0 l0.length c0) (rs := []) 4 rfl (by kernel_rfl) (fun _ _ => Yl.move rfl) (GX.take (v := .int .i64 z171) (rs := []) 5 rfl (by kernel_rfl) (fun _ _ => Yl.move rfl) (GX.take (v := .int .i64 ((Int.toNat (z171 - 1) : Nat) : Int)) (rs := []) 6 rfl (by kernel_rfl) (fun _ _ => Yl.int (e := IntKind.i64.wrap (z171 - 1)) yk (by rw [IntWalk.i64_in _ (by omega)]; omega)) ?_))))
 obtain ⟨x193, hx194⟩ := at_of (ls := l172) (i := Int.toNat (z171 - 1)) (by first | omega | (simp; done) | (simp; omega))
 refine GX.take (v := .pointer (some ⟨ab A0, ao A0 + (Int.toNat (z171 - 1)) * 1, none⟩)) (rs := []) 7 rfl (by kernel_rfl) (fun _ ⟨_, H9⟩ => Yl.indexAddr (El37) rfl rfl ((H9.rds (i := 0) rfl).addr (i := Int.toNat (z171 - 1)) (by omega)) (by omega)) (GX.take (v := .int .u64 ((x193 : Nat) : Int)) (rs := []) 8 rfl (by kernel_rfl) (fun _ ⟨_, H9⟩ => Yl.load rfl (Lds.one Try.isAgg30 (((H9.rds (i := 0) rfl).elem eN_len hx194 (by decide)).at_ (k := 0) rfl))) ?_)
 obtain ⟨r200, hr201⟩ : ∃ q, cmp_Less_uint64 x191 x193 = q := ⟨_, rfl⟩
 obtain ⟨D195, HP196, ro197, bk198, rr199⟩ := Own.enter0 H190
 refine GX.do 9 rfl (by kernel_rfl) (Do.call Try.call78 rfl (cmp_Less_uint64_ok _ _ x191 x193 r200 HP196 hr201) ?_)
 rintro _ w202 ⟨rfl, HQ203⟩
 have H204 := bk198 _ _ HQ203
 refine ⟨.inr ⟨_, H204⟩, ?_⟩
 refine GX.take (v := .bool (!r200)) (rs := []) 10 rfl (by kernel_rfl) (fun _ _ => yk) (GX.done (by kernel_rfl) (Fin.then ?_))
 rcases Bool.eq_false_or_eq_true (r200) with h205 | h205
 refine jF (cn h205) (sk ?_)
 have H207 := H204.drew
 refine Wp.drawnX [15, 17] (fun W => ∃ L', Own w D W ([row A0 l0.length c0 (List.flatMap (eN .u64) l172) 30 1] ++ L')) (by kernel_rfl) (by kernel_rfl) (NoP.block (NoP.then (NoP.then (NoP.block (NoP.block (NoP.then (NoP.then (NoP.block (NoP.then NoP.base))))))))) ⟨_, H207⟩ ?_
 revert H207
 generalize World.drew w202 = w206
 intro H207
 refine GX.take (v := .slice A0 l0.length c0) (rs := [[], []]) 0 rfl (by kernel_rfl) (fun _ _ => Yl.move rfl) (GX.take (v := .int .i64 ((Int.toNat z171 : Nat) : Int)) (rs := [[], []]) 1 rfl (by kernel_rfl) (fun _ _ => Yl.int (e := z171) (Yl.move rfl) (by omega)) (GX.takeA (v := .slice A0 l0.length c0) 2 rfl (by kernel_rfl) (fun _ => Yl.move rfl) (GX.takeA (v := .int .i64 z171) 3 rfl (by kernel_rfl) (fun _ => Yl.move rfl) (GX.takeA (v := .int .i64 ((Int.toNat (z171 - 1) : Nat) : Int)) 4 rfl (by kernel_rfl) (fun _ => Yl.int (e := IntKind.i64.wrap (z171 - 1)) yk (by rw [IntWalk.i64_in _ (by omega)]; omega)) (GX.take (v := .slice A0 l0.length c0) (rs := [[], []]) 5 rfl (by kernel_rfl) (fun _ _ => Yl.move rfl) (GX.take (v := .int .i64 z171) (rs := [[], []]) 6 rfl (by kernel_rfl) (fun _ _ => Yl.move rfl) (GX.take (v := .int .i64 ((Int.toNat (z171 - 1) : Nat) : Int)) (rs := [[], []]) 7 rfl (by kernel_rfl) (fun _ _ => Yl.int (e := IntKind.i64.wrap (z171 - 1)) yk (by rw [IntWalk.i64_in _ (by omega)]; omega)) (GX.take (v := .pointer (some ⟨ab A0, ao A0 + (Int.toNat (z171 - 1)) * 1, none⟩)) (rs := [[], []]) 8 rfl (by kernel_rfl) (fun _ ⟨_, H9⟩ => Yl.indexAddr (El37) rfl rfl ((H9.rds (i := 0) rfl).addr (i := Int.toNat (z171 - 1)) (by omega)) (by omega)) (GX.take (v := .int .u64 ((x193 : Nat) : Int)) (rs := [[], []]) 9 rfl (by kernel_rfl) (fun _ ⟨_, H9⟩ => Yl.load rfl (Lds.one Try.isAgg30 (((H9.rds (i := 0) rfl).elem eN_len hx194 (by decide)).at_ (k := 0) rfl))) (GX.take (v := .slice A0 l0.length c0) (rs := [[13, 12], []]) 10 rfl (by kernel_rfl) (fun _ _ => Yl.move rfl) (GX.take (v := .int .i64 ((Int.toNat z171 : Nat) : Int)) (rs := [[13, 12], []]) 11 rfl (by kernel_rfl) (fun _ _ => Yl.int (e := z171) (Yl.move rfl) (by omega)) (GX.take (v := .pointer (some ⟨ab A0, ao A0 + (Int.toNat z171) * 1, none⟩)) (rs := [[13], []]) 12 rfl (by kernel_rfl) (fun _ ⟨_, H9⟩ => Yl.indexAddr (El37) rfl rfl ((H9.rds (i := 0) rfl).addr (i := Int.toNat z171) (by omega)) (by omega)) (GX.take (v := .int .u64 ((x191 : Nat) : Int)) (rs := [[], []]) 13 rfl (by kernel_rfl) (fun _ ⟨_, H9⟩ => Yl.load rfl (Lds.one Try.isAgg30 (((H9.rds (i := 0) rfl).elem eN_len hx192 (by decide)).at_ (k := 0) rfl))) (GX.take (v := .pointer (some ⟨ab A0, ao A0 + (Int.toNat z171) * 1, none⟩)) (rs := [[], []]) 14 rfl (by kernel_rfl) (fun _ ⟨_, H9⟩ => Yl.indexAddr (El37) rfl rfl ((H9.rds (i := 0) rfl).addr (i := Int.toNat z171) (by omega)) (by omega)) ?_))))))))))))))
 refine GX.do0 15 rfl (by kernel_rfl) (Do.storeRow (vs := [.int .u64 ((x193 : Nat) : Int)]) (o := (Int.toNat z171) * 1 + 0) (q := ao A0 + (Int.toNat z171) * 1) H207 rfl (by omega) rfl Try.sizeOf30 rfl rfl (Nat.le_of_ble_eq_true rfl) (store_fits eN_len hx192 (Nat.le_of_ble_eq_true rfl)) (flat_set (y := x193) eN_len rfl (Nat.le_of_ble_eq_true rfl) hx192) ?_)
 intro w208 H209
 refine ⟨.inl (by kernel_rfl), ?_⟩
 obtain ⟨x210, hx211⟩ := at_of (ls := l172) (i := Int.toNat (z171 - 1)) (by first | omega | (simp; done) | (simp; omega))
 obtain ⟨x212, hx213⟩ := rds_at (ls := (List.set l172 (Int.toNat z171) x193)) (i := Int.toNat (z171 - 1)) eN_len (by decide) (H209.rds (i := 0) rfl) (by first | omega | (simp; done) | (simp; omega))
 refine GX.takeA (v := .pointer (some ⟨ab A0, ao A0 + (Int.toNat (z171 - 1)) * 1, none⟩)) 16 rfl (by kernel_rfl) (fun _ => Yl.indexAddr (El37) rfl rfl ((H209.rds (i := 0) rfl).addr (i := Int.toNat (z171 - 1)) (by omega)) (by omega)) ?_
 obtain ⟨x214, hx215⟩ := at_of (ls := (List.set l172 (Int.toNat z171) x193)) (i := Int.toNat (z171 - 1)) (by first | omega | (simp; done) | (simp; omega))
 refine GX.do0 17 rfl (by kernel_rfl) (Do.storeRow (vs := [.int .u64 ((x191 : Nat) : Int)]) (o := (Int.toNat (z171 - 1)) * 1 + 0) (q := ao A0 + (Int.toNat (z171 - 1)) * 1) H209 rfl (by omega) rfl Try.sizeOf30 rfl rfl (Nat.le_of_ble_eq_true rfl) (store_fits eN_len hx215 (Nat.le_of_ble_eq_true rfl)) (flat_set (y := x191) eN_len rfl (Nat.le_of_ble_eq_true rfl) hx215) ?_)
 intro w216 H217
 refine ⟨.inl (by kernel_rfl), ?_⟩
 refine GX.done (by kernel_rfl) (bN (Fin.then (Wp.region (Mz rfl (fw (.int .i64 (z171 + 1)) (Yl.int (e := IntKind.i64.wrap (z171 + 1)) yk (by rw [IntWalk.i64_in _ (by omega)])) (Az rfl (WL.nil ?_)))))))
 have H218 := H217.pk [0]
 exact Fin.round (z171 + 1, (List.set (List.set l172 (Int.toNat z171) x193) (Int.toNat (z171 - 1)) x191), f186) ⟨rfl, rfl, rfl, rfl, rfl, rfl, rfl, trivial⟩ (dm181.2 ⟨H218, by first | omega | (simp only [List.length_set] <;> omega) | (simp only [List.length_replicate]), by omega, by omega, Eq.trans (hq182) (Eq.trans (if_pos h188) (Eq.trans (bnd_of (getD_of hx192)) (Eq.trans (bnd_of (getD_of hx194)) (Eq.trans (bnd_of hr201) (if_pos h205)))))⟩) (by show f186 < f186 + 1; omega)
 refine jT (cn h205) (Wp.exit (Fin.thenX (Fin.blockO rfl (Fin.thenX (Fin.thenX (Fin.blockX (bN ?_)))))))
 have H219 := H204.pk [0]
 exact Fin.join (z43, l172) ⟨rfl, rfl, rfl, rfl, rfl, rfl, trivial⟩ (dm42.2 ⟨H219, by first | omega | (simp only [List.length_set] <;> omega) | (simp only [List.length_replicate]), by omega, by omega, Eq.trans (bnd_of hj86) (Eq.trans (if_neg h89) (Eq.trans (if_neg h91) (Eq.trans (bnd_of (getD_of hx96)) (Eq.trans (bnd_of (getD_of hx98)) (Eq.trans (bnd_of hj168) (Eq.trans (if_pos h170) (bnd_of (Eq.trans (hq182) (Eq.trans (if_pos h188) (Eq.trans (bnd_of (getD_of hx192)) (Eq.trans (bnd_of (getD_of hx194)) (Eq.trans (bnd_of hr201) (ifF h205)))))))))))))⟩)
 refine jF (dF h188) (Wp.exit (Fin.thenX (Fin.thenX (Fin.blockX (bN ?_)))))
 have H220 := H177.pk [0]
 exact Fin.join (z43, l172) ⟨rfl, rfl, rfl, rfl, rfl, rfl, trivial⟩ (dm42.2 ⟨H220, by first | omega | (simp only [List.length_set] <;> omega) | (simp only [List.length_replicate]), by omega, by omega, Eq.trans (bnd_of hj86) (Eq.trans (if_neg h89) (Eq.trans (if_neg h91) (Eq.trans (bnd_of (getD_of hx96)) (Eq.trans (bnd_of (getD_of hx98)) (Eq.trans (bnd_of hj168) (Eq.trans (if_pos h170) (bnd_of (Eq.trans (hq182) (if_neg h188)))))))))⟩)
 refine jF (dF h170) (Wp.skip (bN ?_))
 have H221 := H166.pk [0]
 exact Fin.join (z43, l109) ⟨rfl, rfl, rfl, rfl, rfl, rfl, trivial⟩ (dm42.2 ⟨H221, by first | omega | (simp only [List.length_set] <;> omega) | (simp only [List.length_replicate]), by omega, by omega, Eq.trans (bnd_of hj86) (Eq.trans (if_neg h89) (Eq.trans (if_neg h91) (Eq.trans (bnd_of (getD_of hx96)) (Eq.trans (bnd_of (getD_of hx98)) (Eq.trans (bnd_of hj168) (if_neg h170))))))⟩)
 rintro ⟨z38, l39⟩ w222 hf224
 show Wp _ _ _ [(6, .bool false), (7, .int .i64 z38), (8, .int .i64 ((k22 : Nat) : Int)), (0, .slice A0 l0.length c0), (1, .int .i64 p1), (2, .int .i64 p2)] _ _
 obtain ⟨H223, hi226, hi227, hi228, hj225⟩ := dm42.1 hf224
 refine Wp.region (Mz rfl (fw (.int .i64 ((k22 + 1 : Nat) : Int)) (Yl.int (e := IntKind.i64.wrap (((k22 : Nat) : Int) + 1)) yk (by rw [IntWalk.i64_in _ (by omega)]; omega)) (Az rfl (WL.nil ?_))))
 have H229 := H223.pk [0]
 exact Fin.round (z38, k22 + 1, l39) ⟨rfl, rfl, rfl, rfl, rfl, rfl, trivial⟩ (dm31.2 ⟨H229, by first | omega | (simp only [List.length_set] <;> omega) | (simp only [List.length_replicate]), by omega, by omega, by omega, Eq.trans (hq32) (Eq.trans (congrArg (fun q => slices_partialInsertionSortOrdered_uint64_L0 p1 p2 q z21 l23) (sub_at (n := 5) (i := k22) (by omega))) (lpS_l hj225))⟩) (by show 5 - (k22 + 1) < 5 - k22; omega)
 refine jF (dF h37) (Wp.exit (Fin.thenX ?_))
 have hL230 : slices_partialInsertionSortOrdered_uint64_L0 p1 p2 5 (p1 + 1) l0 = Sum.inl l23 := et (hq32) (et (congrArg (fun q => slices_partialInsertionSortOrdered_uint64_L0 p1 p2 q z21 l23) (sub_end (n := 5) (i := k22) (by omega))) rfl)
 refine Fin.thenX (Fin.blockX (Fin.then (sr (An rfl (rt (rs ?_))))))
 have H231 := H27.pk [0]
 have e : slices_partialInsertionSortOrdered_uint64 l0 p1 p2 = (false, l23) := lp_l hL230
 obtain ⟨rfl, rfl⟩ := pj2 (e.symm.trans hr)
 exact ⟨rfl, H231, (by first | rfl | omega | (simp only [List.length_set] <;> omega))⟩
def slices_order2Ordered_uint64 (l0 : List Nat) (p1 : Int) (p2 : Int) (p3 : Int) : Int × Int × Int :=
 bnd (List.getD l0 (Int.toNat p2) default) fun yx23 => bnd (List.getD l0 (Int.toNat p1) default) fun yx25 => bnd (cmp_Less_uint64 yx23 yx25) fun yr32 => if yr32 = true then (p2, p1, IntKind.i64.wrap (p3 + 1)) else (p1, p2, p3)
set_option maxRecDepth 100000 in
theorem slices_order2Ordered_uint64_ok (w : World) (D : Nat → Prop) (A0 : Option Addr) (n0 c0 : Nat) (l0 : List Nat) (p1 : Int) (p2 : Int) (g3 : Nat) (p3 : Int) (r0 : Int) (r1 : Int) (r2 : Int) (H : Own w D w [blk g3 [.int .i64 p3] 3]) (hx0 : Ro w D fun w' => Rds w' 1 A0 n0 (List.flatMap (eN .u64) l0)) (hn0 : n0 = l0.length) (hl0 : l0.length * 8 ≤ 211106232532992) (hh0 : 0 ≤ p1 ∧ 0 ≤ p2 ∧ p1 < ((l0.length : Nat) : Int) ∧ p2 < ((l0.length : Nat) : Int)) (hr : slices_order2Ordered_uint64 l0 p1 p2 p3 = (r0, r1, r2)) :
    Calls Try.prog 90 #[.slice A0 n0 c0, .int .i64 p1, .int .i64 p2, .pointer (some ⟨g3, 0, none⟩)] w (Ret fun v w' => v = .tuple #[.int .i64 r0, .int .i64 r1] ∧ Own w D w' [blk g3 [.int .i64 r2] 3] ∧ ((r0 = p1 ∧ r1 = p2) ∨ (r0 = p2 ∧ r1 = p1))) := by
 subst hn0
 refine Calls.body (args := [.slice A0 l0.length c0, .int .i64 p1, .int .i64 p2, .pointer (some ⟨g3, 0, none⟩)]) Try.func90 rfl rfl rfl ?_
 show Wp _ _ _ [(0, .slice A0 l0.length c0), (1, .int .i64 p1), (2, .int .i64 p2), (3, .pointer (some ⟨g3, 0, none⟩))] _ _
 refine sr (Az rfl (An rfl (Wp.seq (Wp.seq ?_))))
 have H22 := H.drew
 refine Wp.drawnX [] (fun W => ∃ L', Own w D W ([blk g3 [.int .i64 p3] 3] ++ L')) (by kernel_rfl) (by kernel_rfl) (NoP.then (NoP.then NoP.base)) ⟨_, H22⟩ ?_
 revert H22
 generalize World.drew w = w21
 intro H22
 refine GX.take (v := .slice A0 l0.length c0) (rs := []) 0 rfl (by kernel_rfl) (fun _ _ => Yl.move rfl) (GX.take (v := .int .i64 ((Int.toNat p2 : Nat) : Int)) (rs := []) 1 rfl (by kernel_rfl) (fun _ _ => Yl.int (e := p2) (Yl.move rfl) (by omega)) ?_)
 obtain ⟨x23, hx24⟩ := at_of (ls := l0) (i := Int.toNat p2) (by first | omega | (simp; done) | (simp; omega))
 refine GX.take (v := .pointer (some ⟨ab A0, ao A0 + (Int.toNat p2) * 1, none⟩)) (rs := []) 2 rfl (by kernel_rfl) (fun _ ⟨_, H9⟩ => Yl.indexAddr (El37) rfl rfl ((H9.ro hx0).addr (i := Int.toNat p2) (by omega)) (by omega)) (GX.take (v := .int .u64 ((x23 : Nat) : Int)) (rs := []) 3 rfl (by kernel_rfl) (fun _ ⟨_, H9⟩ => Yl.load rfl (Lds.one Try.isAgg30 (((H9.ro hx0).elem eN_len hx24 (by decide)).at_ (k := 0) rfl))) (GX.take (v := .slice A0 l0.length c0) (rs := []) 4 rfl (by kernel_rfl) (fun _ _ => Yl.move rfl) (GX.take (v := .int .i64 ((Int.toNat p1 : Nat) : Int)) (rs := []) 5 rfl (by kernel_rfl) (fun _ _ => Yl.int (e := p1) (Yl.move rfl) (by omega)) ?_)))
 obtain ⟨x25, hx26⟩ := at_of (ls := l0) (i := Int.toNat p1) (by first | omega | (simp; done) | (simp; omega))
 refine GX.take (v := .pointer (some ⟨ab A0, ao A0 + (Int.toNat p1) * 1, none⟩)) (rs := []) 6 rfl (by kernel_rfl) (fun _ ⟨_, H9⟩ => Yl.indexAddr (El37) rfl rfl ((H9.ro hx0).addr (i := Int.toNat p1) (by omega)) (by omega)) (GX.take (v := .int .u64 ((x25 : Nat) : Int)) (rs := []) 7 rfl (by kernel_rfl) (fun _ ⟨_, H9⟩ => Yl.load rfl (Lds.one Try.isAgg30 (((H9.ro hx0).elem eN_len hx26 (by decide)).at_ (k := 0) rfl))) ?_)
 obtain ⟨r32, hr33⟩ : ∃ q, cmp_Less_uint64 x23 x25 = q := ⟨_, rfl⟩
 obtain ⟨D27, HP28, ro29, bk30, rr31⟩ := Own.enter0 H22
 refine GX.do 8 rfl (by kernel_rfl) (Do.call Try.call78 rfl (cmp_Less_uint64_ok _ _ x23 x25 r32 HP28 hr33) ?_)
 rintro _ w34 ⟨rfl, HQ35⟩
 have H36 := bk30 _ _ HQ35
 refine ⟨.inr ⟨_, H36⟩, ?_⟩
 refine GX.done (by kernel_rfl) (Fin.then ?_)
 rcases Bool.eq_false_or_eq_true (r32) with h37 | h37
 refine jT h37 (sr (Mz rfl (Kz (.pointer (some ⟨g3, 0, none⟩)) (Lz (.int .i64 p3) H36 0 Try.isAgg3 (Kz (.int .i64 (IntKind.i64.wrap (p3 + 1))) (Kz (.pointer (some ⟨g3, 0, none⟩)) ?_))))))
 refine sto [.int .i64 (IntKind.i64.wrap (p3 + 1))] 0 H36 Try.sizeOf3 ?_
 intro w38 H39
 refine ns (Mz rfl (Mz rfl (Az rfl (An rfl (rt (tR (Fin.res (res2 rfl rfl rfl) ?_)))))))
 have H40 := H39.pk [0]
 have e : slices_order2Ordered_uint64 l0 p1 p2 p3 = (p2, p1, IntKind.i64.wrap (p3 + 1)) := et (bnd_of (getD_of hx24)) (et (bnd_of (getD_of hx26)) (et (bnd_of hr33) (ip h37)))
 obtain ⟨rfl, rfl, rfl⟩ := pj3 (e.symm.trans hr)
 exact ⟨rfl, H40, (by omega)⟩
 refine jF h37 (sk (sr (Mz rfl (Mz rfl (Az rfl (An rfl (rt (Fin.res (res2 rfl rfl rfl) ?_))))))))
 have H41 := H36.pk [0]
 have e : slices_order2Ordered_uint64 l0 p1 p2 p3 = (p1, p2, p3) := et (bnd_of (getD_of hx24)) (et (bnd_of (getD_of hx26)) (et (bnd_of hr33) (ifF h37)))
 obtain ⟨rfl, rfl, rfl⟩ := pj3 (e.symm.trans hr)
 exact ⟨rfl, H41, (by omega)⟩
def slices_medianOrdered_uint64 (l0 : List Nat) (p1 : Int) (p2 : Int) (p3 : Int) (p4 : Int) : Int × Int :=
 bnd (slices_order2Ordered_uint64 l0 p1 p2 p4) fun yr26 => bnd (slices_order2Ordered_uint64 l0 yr26.2.1 p3 yr26.2.2) fun yr39 => bnd (slices_order2Ordered_uint64 l0 yr26.1 yr39.1 yr39.2.2) fun yr52 => (yr52.2.1, yr52.2.2)
set_option maxRecDepth 100000 in
theorem slices_medianOrdered_uint64_ok (w : World) (D : Nat → Prop) (A0 : Option Addr) (n0 c0 : Nat) (l0 : List Nat) (p1 : Int) (p2 : Int) (p3 : Int) (g4 : Nat) (p4 : Int) (r0 : Int) (r1 : Int) (H : Own w D w [blk g4 [.int .i64 p4] 3]) (hx0 : Ro w D fun w' => Rds w' 1 A0 n0 (List.flatMap (eN .u64) l0)) (hn0 : n0 = l0.length) (hl0 : l0.length * 8 ≤ 211106232532992) (hh0 : 0 ≤ p1 ∧ 0 ≤ p2 ∧ 0 ≤ p3 ∧ p1 < ((l0.length : Nat) : Int) ∧ p2 < ((l0.length : Nat) : Int) ∧ p3 < ((l0.length : Nat) : Int)) (hr : slices_medianOrdered_uint64 l0 p1 p2 p3 p4 = (r0, r1)) :
    Calls Try.prog 88 #[.slice A0 n0 c0, .int .i64 p1, .int .i64 p2, .int .i64 p3, .pointer (some ⟨g4, 0, none⟩)] w (Ret fun v w' => v = .int .i64 r0 ∧ Own w D w' [blk g4 [.int .i64 r1] 3] ∧ (r0 = p1 ∨ r0 = p2 ∨ r0 = p3)) := by
 subst hn0
 refine Calls.body (args := [.slice A0 l0.length c0, .int .i64 p1, .int .i64 p2, .int .i64 p3, .pointer (some ⟨g4, 0, none⟩)]) Try.func88 rfl rfl rfl ?_
 show Wp _ _ _ [(0, .slice A0 l0.length c0), (1, .int .i64 p1), (2, .int .i64 p2), (3, .int .i64 p3), (4, .pointer (some ⟨g4, 0, none⟩))] _ _
 refine sr (Ar rfl (Mz rfl (Mz rfl (Mz rfl (Mz rfl ?_)))))
 obtain ⟨⟨r26, r27, r28⟩, hr29⟩ : ∃ q : Int × Int × Int, slices_order2Ordered_uint64 l0 p1 p2 p4 = q := ⟨_, rfl⟩
 obtain ⟨D21, HP22, ro23, bk24, rr25⟩ := Own.enter1 H
 refine cl Try.call90 (slices_order2Ordered_uint64_ok _ _ A0 l0.length c0 l0 p1 p2 g4 p4 r26 r27 r28 HP22 (ro23 _ hx0) rfl (by omega) (by omega) hr29) ?_
 rintro _ w30 ⟨rfl, HQ31, hk33⟩
 have H32 := bk24 _ _ HQ31
 replace hk33 : (r26 = p1 ∧ r27 = p2) ∨ (r26 = p2 ∧ r27 = p1) := hk33
 refine Mz rfl (Kz (.int .i64 r26) (Kz (.int .i64 r27) (Az rfl (Ar rfl (Mz rfl (Mz rfl (Mz rfl (Mz rfl ?_))))))))
 obtain ⟨⟨r39, r40, r41⟩, hr42⟩ : ∃ q : Int × Int × Int, slices_order2Ordered_uint64 l0 r27 p3 r28 = q := ⟨_, rfl⟩
 obtain ⟨D34, HP35, ro36, bk37, rr38⟩ := Own.enter1 H32
 refine cl Try.call90 (slices_order2Ordered_uint64_ok _ _ A0 l0.length c0 l0 r27 p3 g4 r28 r39 r40 r41 HP35 (ro36 _ hx0) rfl (by omega) (by omega) hr42) ?_
 rintro _ w43 ⟨rfl, HQ44, hk46⟩
 have H45 := bk37 _ _ HQ44
 replace hk46 : (r39 = r27 ∧ r40 = p3) ∨ (r39 = p3 ∧ r40 = r27) := hk46
 refine Mz rfl (Kz (.int .i64 r39) (Kz (.int .i64 r40) (Az rfl (Ar rfl (Mz rfl (Mz rfl (Mz rfl (Mz rfl ?_))))))))
 obtain ⟨⟨r52, r53, r54⟩, hr55⟩ : ∃ q : Int × Int × Int, slices_order2Ordered_uint64 l0 r26 r39 r41 = q := ⟨_, rfl⟩
 obtain ⟨D47, HP48, ro49, bk50, rr51⟩ := Own.enter1 H45
 refine cl Try.call90 (slices_order2Ordered_uint64_ok _ _ A0 l0.length c0 l0 r26 r39 g4 r41 r52 r53 r54 HP48 (ro49 _ hx0) rfl (by omega) (by omega) hr55) ?_
 rintro _ w56 ⟨rfl, HQ57, hk59⟩
 have H58 := bk50 _ _ HQ57
 replace hk59 : (r52 = r26 ∧ r53 = r39) ∨ (r52 = r39 ∧ r53 = r26) := hk59
 refine Mz rfl (Kz (.int .i64 r52) (Kz (.int .i64 r53) (Az rfl (Ar rfl (Mz rfl (An rfl (rt (rs ?_))))))))
 have H60 := H58.pk [0]
 have e : slices_medianOrdered_uint64 l0 p1 p2 p3 p4 = (r53, r54) := et (bnd_of hr29) (et (bnd_of hr42) (bnd_of hr55))
 obtain ⟨rfl, rfl⟩ := pj2 (e.symm.trans hr)
 exact ⟨rfl, H60, (by omega)⟩
def slices_medianAdjacentOrdered_uint64 (l0 : List Nat) (p1 : Int) (p2 : Int) : Int × Int :=
 bnd (slices_medianOrdered_uint64 l0 (p1 - 1) p1 (p1 + 1) p2) fun yr26 => (yr26.1, yr26.2)
set_option maxRecDepth 100000 in
theorem slices_medianAdjacentOrdered_uint64_ok (w : World) (D : Nat → Prop) (A0 : Option Addr) (n0 c0 : Nat) (l0 : List Nat) (p1 : Int) (g2 : Nat) (p2 : Int) (r0 : Int) (r1 : Int) (H : Own w D w [blk g2 [.int .i64 p2] 3]) (hx0 : Ro w D fun w' => Rds w' 1 A0 n0 (List.flatMap (eN .u64) l0)) (hn0 : n0 = l0.length) (hl0 : l0.length * 8 ≤ 211106232532992) (hh0 : 1 ≤ p1 ∧ p1 + 1 < ((l0.length : Nat) : Int)) (hr : slices_medianAdjacentOrdered_uint64 l0 p1 p2 = (r0, r1)) :
    Calls Try.prog 87 #[.slice A0 n0 c0, .int .i64 p1, .pointer (some ⟨g2, 0, none⟩)] w (Ret fun v w' => v = .int .i64 r0 ∧ Own w D w' [blk g2 [.int .i64 r1] 3] ∧ (p1 - 1 ≤ r0 ∧ r0 ≤ p1 + 1)) := by
 subst hn0
 refine Calls.body (args := [.slice A0 l0.length c0, .int .i64 p1, .pointer (some ⟨g2, 0, none⟩)]) Try.func87 rfl rfl rfl ?_
 show Wp _ _ _ [(0, .slice A0 l0.length c0), (1, .int .i64 p1), (2, .pointer (some ⟨g2, 0, none⟩))] _ _
 refine sr (Ar rfl (Mz rfl (Mz rfl (fw (.int .i64 (p1 - 1)) (Yl.int (e := IntKind.i64.wrap (p1 - 1)) yk (by rw [IntWalk.i64_in _ (by omega)])) (Mz rfl (Mz rfl (fw (.int .i64 (p1 + 1)) (Yl.int (e := IntKind.i64.wrap (p1 + 1)) yk (by rw [IntWalk.i64_in _ (by omega)])) (Mz rfl ?_))))))))
 obtain ⟨⟨r26, r27⟩, hr28⟩ : ∃ q : Int × Int, slices_medianOrdered_uint64 l0 (p1 - 1) p1 (p1 + 1) p2 = q := ⟨_, rfl⟩
 obtain ⟨D21, HP22, ro23, bk24, rr25⟩ := Own.enter1 H
 refine cl Try.call88 (slices_medianOrdered_uint64_ok _ _ A0 l0.length c0 l0 (p1 - 1) p1 (p1 + 1) g2 p2 r26 r27 HP22 (ro23 _ hx0) rfl (by omega) (by omega) hr28) ?_
 rintro _ w29 ⟨rfl, HQ30, hk32⟩
 have H31 := bk24 _ _ HQ30
 replace hk32 : r26 = (p1 - 1) ∨ r26 = p1 ∨ r26 = (p1 + 1) := hk32
 refine An rfl (rt (rs ?_))
 have H33 := H31.pk [0]
 have e : slices_medianAdjacentOrdered_uint64 l0 p1 p2 = (r26, r27) := bnd_of hr28
 obtain ⟨rfl, rfl⟩ := pj2 (e.symm.trans hr)
 exact ⟨rfl, H33, (by omega)⟩
def slices_choosePivotOrdered_uint64 (l0 : List Nat) (p1 : Int) (p2 : Int) : Int × Int :=
 bnd (if p2 - p1 ≥ 8 then if p2 - p1 ≥ 50 then bnd (slices_medianAdjacentOrdered_uint64 l0 (p1 + ((((Int.toNat (p2 - p1)) / 4) * 1 : Nat) : Int)) 0) fun yr39 => bnd (slices_medianAdjacentOrdered_uint64 l0 (p1 + ((((Int.toNat (p2 - p1)) / 4) * 2 : Nat) : Int)) yr39.2) fun yr51 => bnd (slices_medianAdjacentOrdered_uint64 l0 (p1 + ((((Int.toNat (p2 - p1)) / 4) * 3 : Nat) : Int)) yr51.2) fun yr63 => bnd (slices_medianOrdered_uint64 l0 yr39.1 yr51.1 yr63.1 yr63.2) fun yr75 => (yr75.1, yr75.2) else bnd (slices_medianOrdered_uint64 l0 (p1 + ((((Int.toNat (p2 - p1)) / 4) * 1 : Nat) : Int)) (p1 + ((((Int.toNat (p2 - p1)) / 4) * 2 : Nat) : Int)) (p1 + ((((Int.toNat (p2 - p1)) / 4) * 3 : Nat) : Int)) 0) fun yr88 => (yr88.1, yr88.2) else (p1 + ((((Int.toNat (p2 - p1)) / 4) * 2 : Nat) : Int), 0)) fun sJrJ => if sJrJ.2 = 0 then (sJrJ.1, 1) else if sJrJ.2 = 12 then (sJrJ.1, 2) else (sJrJ.1, 0)
set_option maxRecDepth 100000 in
theorem slices_choosePivotOrdered_uint64_ok (w : World) (D : Nat → Prop) (A0 : Option Addr) (n0 c0 : Nat) (l0 : List Nat) (p1 : Int) (p2 : Int) (r0 : Int) (r1 : Int) (H : Own w D w []) (hx0 : Ro w D fun w' => Rds w' 1 A0 n0 (List.flatMap (eN .u64) l0)) (hn0 : n0 = l0.length) (hl0 : l0.length * 8 ≤ 211106232532992) (hh0 : 0 ≤ p1 ∧ p1 ≤ p2 ∧ p2 ≤ ((l0.length : Nat) : Int)) (hh1 : p1 < p2) (hr : slices_choosePivotOrdered_uint64 l0 p1 p2 = (r0, r1)) :
    Calls Try.prog 75 #[.slice A0 n0 c0, .int .i64 p1, .int .i64 p2] w (Ret fun v w' => v = .tuple #[.int .i64 r0, .int .i64 r1] ∧ Own w D w' [] ∧ (p1 ≤ r0 ∧ r0 < p2)) := by
 subst hn0
 refine Calls.body (args := [.slice A0 l0.length c0, .int .i64 p1, .int .i64 p2]) Try.func75 rfl rfl rfl ?_
 show Wp _ _ _ [(0, .slice A0 l0.length c0), (1, .int .i64 p1), (2, .int .i64 p2)] _ _
 refine sr (Az rfl (Ar rfl (Mz rfl (Mz rfl (fw (.int .i64 (p2 - p1)) (Yl.int (e := IntKind.i64.wrap (p2 - p1)) yk (by rw [IntWalk.i64_in _ (by omega)])) (Ar rfl ?_))))))
 refine npw [.int .i64 0] 3 H ?_
 intro g21 w22 H23
 refine ns (Mz rfl (Mz rfl ?_))
 have hz24 : ((Int.toNat (p2 - p1) : Nat) : Int) = p2 - p1 := by omega
 refine fw (.int .i64 (((Int.toNat (p2 - p1)) / 4 : Nat) : Int)) (Yl.int (e := IntKind.i64.wrap (Int.tdiv (p2 - p1) 4)) yk (by rw [show Int.tdiv (p2 - p1) 4 = (((Int.toNat (p2 - p1)) / 4 : Nat) : Int) from tdivT (n := 4) (by omega), IntWalk.i64_in _ (by omega)])) (fw (.int .i64 ((((Int.toNat (p2 - p1)) / 4) * 1 : Nat) : Int)) (Yl.int (e := IntKind.i64.wrap ((((Int.toNat (p2 - p1)) / 4 : Nat) : Int) * 1)) yk (by rw [IntWalk.i64_in _ (by omega)]; omega)) (fw (.int .i64 (p1 + ((((Int.toNat (p2 - p1)) / 4) * 1 : Nat) : Int))) (Yl.int (e := IntKind.i64.wrap (p1 + ((((Int.toNat (p2 - p1)) / 4) * 1 : Nat) : Int))) yk (by rw [IntWalk.i64_in _ (by omega)])) (Ar rfl (Mz rfl (Mz rfl ?_)))))
 have hz25 : ((Int.toNat (p2 - p1) : Nat) : Int) = p2 - p1 := by omega
 refine fw (.int .i64 (((Int.toNat (p2 - p1)) / 4 : Nat) : Int)) (Yl.int (e := IntKind.i64.wrap (Int.tdiv (p2 - p1) 4)) yk (by rw [show Int.tdiv (p2 - p1) 4 = (((Int.toNat (p2 - p1)) / 4 : Nat) : Int) from tdivT (n := 4) (by omega), IntWalk.i64_in _ (by omega)])) (fw (.int .i64 ((((Int.toNat (p2 - p1)) / 4) * 2 : Nat) : Int)) (Yl.int (e := IntKind.i64.wrap ((((Int.toNat (p2 - p1)) / 4 : Nat) : Int) * 2)) yk (by rw [IntWalk.i64_in _ (by omega)]; omega)) (fw (.int .i64 (p1 + ((((Int.toNat (p2 - p1)) / 4) * 2 : Nat) : Int))) (Yl.int (e := IntKind.i64.wrap (p1 + ((((Int.toNat (p2 - p1)) / 4) * 2 : Nat) : Int))) yk (by rw [IntWalk.i64_in _ (by omega)])) (Ar rfl (Mz rfl (Mz rfl ?_)))))
 have hz26 : ((Int.toNat (p2 - p1) : Nat) : Int) = p2 - p1 := by omega
 refine fw (.int .i64 (((Int.toNat (p2 - p1)) / 4 : Nat) : Int)) (Yl.int (e := IntKind.i64.wrap (Int.tdiv (p2 - p1) 4)) yk (by rw [show Int.tdiv (p2 - p1) 4 = (((Int.toNat (p2 - p1)) / 4 : Nat) : Int) from tdivT (n := 4) (by omega), IntWalk.i64_in _ (by omega)])) (fw (.int .i64 ((((Int.toNat (p2 - p1)) / 4) * 3 : Nat) : Int)) (Yl.int (e := IntKind.i64.wrap ((((Int.toNat (p2 - p1)) / 4 : Nat) : Int) * 3)) yk (by rw [IntWalk.i64_in _ (by omega)]; omega)) (fw (.int .i64 (p1 + ((((Int.toNat (p2 - p1)) / 4) * 3 : Nat) : Int))) (Yl.int (e := IntKind.i64.wrap (p1 + ((((Int.toNat (p2 - p1)) / 4) * 3 : Nat) : Int))) yk (by rw [IntWalk.i64_in _ (by omega)])) (An rfl (Wp.seq (sr (Mz rfl (Kz (.bool (decide (p2 - p1 ≥ 8))) (nt ?_))))))))
 obtain ⟨I29, hI30⟩ : ∃ q : (Int × Int) → World → Prop, q = fun (i : Int × Int) w' => Own w D w' [blk g21 [.int .i64 i.2] 3] ∧ ((-9223372036854775808 ≤ i.1 ∧ i.1 ≤ 9223372036854775807) ∧ (p1 ≤ i.1 ∧ i.1 < p2) ∧ (if p2 - p1 ≥ 8 then if p2 - p1 ≥ 50 then bnd (slices_medianAdjacentOrdered_uint64 l0 (p1 + ((((Int.toNat (p2 - p1)) / 4) * 1 : Nat) : Int)) 0) fun yr39 => bnd (slices_medianAdjacentOrdered_uint64 l0 (p1 + ((((Int.toNat (p2 - p1)) / 4) * 2 : Nat) : Int)) yr39.2) fun yr51 => bnd (slices_medianAdjacentOrdered_uint64 l0 (p1 + ((((Int.toNat (p2 - p1)) / 4) * 3 : Nat) : Int)) yr51.2) fun yr63 => bnd (slices_medianOrdered_uint64 l0 yr39.1 yr51.1 yr63.1 yr63.2) fun yr75 => (yr75.1, yr75.2) else bnd (slices_medianOrdered_uint64 l0 (p1 + ((((Int.toNat (p2 - p1)) / 4) * 1 : Nat) : Int)) (p1 + ((((Int.toNat (p2 - p1)) / 4) * 2 : Nat) : Int)) (p1 + ((((Int.toNat (p2 - p1)) / 4) * 3 : Nat) : Int)) 0) fun yr88 => (yr88.1, yr88.2) else (p1 + ((((Int.toNat (p2 - p1)) / 4) * 2 : Nat) : Int), 0)) = (i.1, i.2)) := ⟨_, rfl⟩
 have dm31 : ∀ {z27 : Int} {z28 : Int} {w' : World}, I29 (z27, z28) w' ↔ Own w D w' [blk g21 [.int .i64 z28] 3] ∧ (-9223372036854775808 ≤ z27 ∧ z27 ≤ 9223372036854775807) ∧ (p1 ≤ z27 ∧ z27 < p2) ∧ (if p2 - p1 ≥ 8 then if p2 - p1 ≥ 50 then bnd (slices_medianAdjacentOrdered_uint64 l0 (p1 + ((((Int.toNat (p2 - p1)) / 4) * 1 : Nat) : Int)) 0) fun yr39 => bnd (slices_medianAdjacentOrdered_uint64 l0 (p1 + ((((Int.toNat (p2 - p1)) / 4) * 2 : Nat) : Int)) yr39.2) fun yr51 => bnd (slices_medianAdjacentOrdered_uint64 l0 (p1 + ((((Int.toNat (p2 - p1)) / 4) * 3 : Nat) : Int)) yr51.2) fun yr63 => bnd (slices_medianOrdered_uint64 l0 yr39.1 yr51.1 yr63.1 yr63.2) fun yr75 => (yr75.1, yr75.2) else bnd (slices_medianOrdered_uint64 l0 (p1 + ((((Int.toNat (p2 - p1)) / 4) * 1 : Nat) : Int)) (p1 + ((((Int.toNat (p2 - p1)) / 4) * 2 : Nat) : Int)) (p1 + ((((Int.toNat (p2 - p1)) / 4) * 3 : Nat) : Int)) 0) fun yr88 => (yr88.1, yr88.2) else (p1 + ((((Int.toNat (p2 - p1)) / 4) * 2 : Nat) : Int), 0)) = (z27, z28) := by intros; subst hI30; exact Iff.rfl
 refine Wp.joinT (fun i : Int × Int => [(11, .int .i64 i.1), (9, .pointer (some ⟨g21, 0, none⟩)), (7, .int .i64 0), (6, .int .i64 0)]) I29 ?_ ?_
 by_cases h32 : p2 - p1 ≥ 8
 refine jT (dT h32) (Wp.seq (sr (Mz rfl (Kz (.bool (decide (p2 - p1 ≥ 50))) (nt ?_)))))
 by_cases h33 : p2 - p1 ≥ 50
 refine jT (dT h33) (sr (Mz rfl (Mz rfl ?_)))
 obtain ⟨⟨r39, r40⟩, hr41⟩ : ∃ q : Int × Int, slices_medianAdjacentOrdered_uint64 l0 (p1 + ((((Int.toNat (p2 - p1)) / 4) * 1 : Nat) : Int)) 0 = q := ⟨_, rfl⟩
 obtain ⟨D34, HP35, ro36, bk37, rr38⟩ := Own.enter1 H23
 refine cl Try.call87 (slices_medianAdjacentOrdered_uint64_ok _ _ A0 l0.length c0 l0 (p1 + ((((Int.toNat (p2 - p1)) / 4) * 1 : Nat) : Int)) g21 0 r39 r40 HP35 (ro36 _ hx0) rfl (by omega) (by omega) hr41) ?_
 rintro _ w42 ⟨rfl, HQ43, hk45⟩
 have H44 := bk37 _ _ HQ43
 replace hk45 : (p1 + ((((Int.toNat (p2 - p1)) / 4) * 1 : Nat) : Int)) - 1 ≤ r39 ∧ r39 ≤ (p1 + ((((Int.toNat (p2 - p1)) / 4) * 1 : Nat) : Int)) + 1 := hk45
 refine Ar rfl (Mz rfl (Mz rfl ?_))
 obtain ⟨⟨r51, r52⟩, hr53⟩ : ∃ q : Int × Int, slices_medianAdjacentOrdered_uint64 l0 (p1 + ((((Int.toNat (p2 - p1)) / 4) * 2 : Nat) : Int)) r40 = q := ⟨_, rfl⟩
 obtain ⟨D46, HP47, ro48, bk49, rr50⟩ := Own.enter1 H44
 refine cl Try.call87 (slices_medianAdjacentOrdered_uint64_ok _ _ A0 l0.length c0 l0 (p1 + ((((Int.toNat (p2 - p1)) / 4) * 2 : Nat) : Int)) g21 r40 r51 r52 HP47 (ro48 _ hx0) rfl (by omega) (by omega) hr53) ?_
 rintro _ w54 ⟨rfl, HQ55, hk57⟩
 have H56 := bk49 _ _ HQ55
 replace hk57 : (p1 + ((((Int.toNat (p2 - p1)) / 4) * 2 : Nat) : Int)) - 1 ≤ r51 ∧ r51 ≤ (p1 + ((((Int.toNat (p2 - p1)) / 4) * 2 : Nat) : Int)) + 1 := hk57
 refine An rfl (Wp.region (Mz rfl (Mz rfl ?_)))
 obtain ⟨⟨r63, r64⟩, hr65⟩ : ∃ q : Int × Int, slices_medianAdjacentOrdered_uint64 l0 (p1 + ((((Int.toNat (p2 - p1)) / 4) * 3 : Nat) : Int)) r52 = q := ⟨_, rfl⟩
 obtain ⟨D58, HP59, ro60, bk61, rr62⟩ := Own.enter1 H56
 refine cl Try.call87 (slices_medianAdjacentOrdered_uint64_ok _ _ A0 l0.length c0 l0 (p1 + ((((Int.toNat (p2 - p1)) / 4) * 3 : Nat) : Int)) g21 r52 r63 r64 HP59 (ro60 _ hx0) rfl (by omega) (by omega) hr65) ?_
 rintro _ w66 ⟨rfl, HQ67, hk69⟩
 have H68 := bk61 _ _ HQ67
 replace hk69 : (p1 + ((((Int.toNat (p2 - p1)) / 4) * 3 : Nat) : Int)) - 1 ≤ r63 ∧ r63 ≤ (p1 + ((((Int.toNat (p2 - p1)) / 4) * 3 : Nat) : Int)) + 1 := hk69
 refine An rfl (Wp.region (Mz rfl (Mz rfl (Mz rfl (Mz rfl ?_)))))
 obtain ⟨⟨r75, r76⟩, hr77⟩ : ∃ q : Int × Int, slices_medianOrdered_uint64 l0 r39 r51 r63 r64 = q := ⟨_, rfl⟩
 obtain ⟨D70, HP71, ro72, bk73, rr74⟩ := Own.enter1 H68
 refine cl Try.call88 (slices_medianOrdered_uint64_ok _ _ A0 l0.length c0 l0 r39 r51 r63 g21 r64 r75 r76 HP71 (ro72 _ hx0) rfl (by omega) (by omega) hr77) ?_
 rintro _ w78 ⟨rfl, HQ79, hk81⟩
 have H80 := bk73 _ _ HQ79
 replace hk81 : r75 = r39 ∨ r75 = r51 ∨ r75 = r63 := hk81
 refine Az rfl (WL.nil ?_)
 have H82 := H80.pk [0]
 exact Fin.join (r75, r76) ⟨rfl, rfl, rfl, rfl, trivial⟩ (dm31.2 ⟨H82, by omega, by omega, et (ip h32) (et (ip h33) (et (bnd_of hr41) (et (bnd_of hr53) (et (bnd_of hr65) (bnd_of hr77)))))⟩)
 refine jF (dF h33) (sk (Wp.region (Mz rfl (Mz rfl (Mz rfl (Mz rfl ?_))))))
 obtain ⟨⟨r88, r89⟩, hr90⟩ : ∃ q : Int × Int, slices_medianOrdered_uint64 l0 (p1 + ((((Int.toNat (p2 - p1)) / 4) * 1 : Nat) : Int)) (p1 + ((((Int.toNat (p2 - p1)) / 4) * 2 : Nat) : Int)) (p1 + ((((Int.toNat (p2 - p1)) / 4) * 3 : Nat) : Int)) 0 = q := ⟨_, rfl⟩
 obtain ⟨D83, HP84, ro85, bk86, rr87⟩ := Own.enter1 H23
 refine cl Try.call88 (slices_medianOrdered_uint64_ok _ _ A0 l0.length c0 l0 (p1 + ((((Int.toNat (p2 - p1)) / 4) * 1 : Nat) : Int)) (p1 + ((((Int.toNat (p2 - p1)) / 4) * 2 : Nat) : Int)) (p1 + ((((Int.toNat (p2 - p1)) / 4) * 3 : Nat) : Int)) g21 0 r88 r89 HP84 (ro85 _ hx0) rfl (by omega) (by omega) hr90) ?_
 rintro _ w91 ⟨rfl, HQ92, hk94⟩
 have H93 := bk86 _ _ HQ92
 replace hk94 : r88 = (p1 + ((((Int.toNat (p2 - p1)) / 4) * 1 : Nat) : Int)) ∨ r88 = (p1 + ((((Int.toNat (p2 - p1)) / 4) * 2 : Nat) : Int)) ∨ r88 = (p1 + ((((Int.toNat (p2 - p1)) / 4) * 3 : Nat) : Int)) := hk94
 refine Az rfl (WL.nil ?_)
 have H95 := H93.pk [0]
 exact Fin.join (r88, r89) ⟨rfl, rfl, rfl, rfl, trivial⟩ (dm31.2 ⟨H95, by omega, by omega, et (ip h32) (et (iN h33) (bnd_of hr90))⟩)
 refine jF (dF h32) (Wp.skip ?_)
 have H96 := H23.pk [0]
 exact Fin.join (p1 + ((((Int.toNat (p2 - p1)) / 4) * 2 : Nat) : Int), 0) ⟨rfl, rfl, rfl, rfl, trivial⟩ (dm31.2 ⟨H96, by omega, by omega, iN h32⟩)
 rintro ⟨z27, z28⟩ w97 hf99
 show Wp _ _ _ [(11, .int .i64 z27), (9, .pointer (some ⟨g21, 0, none⟩)), (7, .int .i64 0), (6, .int .i64 0)] _ _
 obtain ⟨H98, hi101, hi102, hj100⟩ := dm31.1 hf99
 refine sr (Lz (.int .i64 z28) H98 0 Try.isAgg3 (nt (bo (sr (Kz (.bool (decide (z28 = 0))) (An rfl ?_))))))
 by_cases h103 : z28 = 0
 refine jT (dT h103) (sr (Mz rfl (Az rfl (An rfl (rt (bR (Fin.res (res2 rfl rfl rfl) ?_)))))))
 have H104 := H98.pk []
 have e : slices_choosePivotOrdered_uint64 l0 p1 p2 = (z27, 1) := et (bnd_of hj100) (ip h103)
 obtain ⟨rfl, rfl⟩ := pj2 (e.symm.trans hr)
 exact ⟨rfl, H104, (by omega)⟩
 refine jF (dF h103) (sr (Kz (.bool (decide (z28 = 12))) (An rfl ?_)))
 by_cases h105 : z28 = 12
 refine jT (dT h105) (sr (Mz rfl (Az rfl (An rfl (rt (bR (Fin.res (res2 rfl rfl rfl) ?_)))))))
 have H106 := H98.pk []
 have e : slices_choosePivotOrdered_uint64 l0 p1 p2 = (z27, 2) := et (bnd_of hj100) (et (iN h103) (ip h105))
 obtain ⟨rfl, rfl⟩ := pj2 (e.symm.trans hr)
 exact ⟨rfl, H106, (by omega)⟩
 refine jF (dF h105) (sr (Mz rfl (Az rfl (An rfl (rt (bR (Fin.res (res2 rfl rfl rfl) ?_)))))))
 have H107 := H98.pk []
 have e : slices_choosePivotOrdered_uint64 l0 p1 p2 = (z27, 0) := et (bnd_of hj100) (et (iN h103) (iN h105))
 obtain ⟨rfl, rfl⟩ := pj2 (e.symm.trans hr)
 exact ⟨rfl, H107, (by omega)⟩
end Go.Proofs.Ytggnajpokhaaiaa
