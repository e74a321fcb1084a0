/-
 wire: bytes of a message's fields.
-/
import Derived.Test.YtccjclalngabhaaGreatWiC
namespace Go.Proofs.YtccjclalngabhaaGreat
open Go.RowKit
set_option linter.unusedVariables false
set_option linter.unusedSectionVars false
set_option linter.unusedSimpArgs false
def octet_Text (p0 : List UInt8) : (List UInt8) :=
 bnd (octet_Num p0.length) fun yr26 => (yr26 ++ p0)
set_option maxRecDepth 100000 in
theorem octet_Text_ok (w : World) (D : Nat → Prop) (p0 : List UInt8) (r0 : List UInt8) (H : Own w D w []) (hh0 : p0.length ≤ 140737488351232) (hr : octet_Text p0 = r0) :
    Calls Tryz.prog 99 #[.string ⟨List.toArray p0⟩] w (Ret fun v w' => ∃ (B0 : Option Addr) (b0 : Nat), v = .slice B0 r0.length b0 ∧ Own w D w' [row B0 r0.length b0 (List.flatMap eB r0) 5 1] ∧ (r0.length ≤ p0.length + 10) ∧ (p0.length ≥ 128 ∨ r0.length = p0.length + 1)) := by
 refine Calls.body (args := [.string ⟨List.toArray p0⟩]) Tryz.func99 rfl rfl rfl ?_
 show Wp _ _ _ [(0, .string ⟨List.toArray p0⟩)] _ _
 refine sr (Ar rfl (Mz rfl (Kz (.int .i64 ((p0.length : Nat) : Int)) (fw (.int .u64 ((p0.length : Nat) : Int)) (Yl.int (e := IntKind.u64.wrap ((p0.length : Nat) : Int)) yk (IntWalk.u64_in _ (by omega))) ?_))))
 obtain ⟨r26, hr27⟩ : ∃ q, octet_Num p0.length = q := ⟨_, rfl⟩
 obtain ⟨D21, HP22, ro23, bk24, rr25⟩ := Own.enter0 H
 refine cl Tryz.call51 (octet_Num_ok _ _ p0.length r26 HP22 (by omega) hr27) ?_
 rintro _ w28 ⟨A31, c32, rfl, HQ29, hk33, hk34⟩
 have H30 := bk24 _ _ HQ29
 have hb35 := H30.rowC (i := 0) rfl
 replace hk33 : 1 ≤ r26.length ∧ r26.length ≤ 10 := hk33
 replace hk34 : p0.length ≥ 128 ∨ r26.length = 1 := hk34
 refine Mz rfl ?_
 refine WL.do rfl (Do.appendW (k := r26.length) (m := p0.length) (El31) H30 rfl rfl (src_str Tryz.underlying9 rfl) rfl (by omega) (s := List.length (r26 ++ p0)) (by first | omega | (simp only [List.length_append, List.length_cons, List.length_nil] <;> omega)) (List.flatMap_append).symm ?_)
 intro A36 c37 w38 H39
 have hl40 : List.length (r26 ++ p0) = r26.length + p0.length := by simp only [List.length_append, List.length_cons, List.length_nil]
 refine An rfl (rt (rs ?_))
 have H41 := H39.pk [0]
 obtain rfl : _ = (r26 ++ p0) := hr.symm.trans (bnd_of hr27)
 exact ⟨A36, c37, rfl, H41, (by first | omega | (simp only [List.length_cons, List.length_nil, List.length_append]; omega)), (by first | omega | (simp only [List.length_cons, List.length_nil, List.length_append]; omega))⟩
def wire_truth (p0 : Bool) : UInt8 :=
 if p0 = true then (1 : UInt8) else (0 : UInt8)
set_option maxRecDepth 100000 in
theorem wire_truth_ok (w : World) (D : Nat → Prop) (p0 : Bool) (r0 : UInt8) (H : Own w D w [])  (hr : wire_truth p0 = r0) :
    Calls Tryz.prog 55 #[.bool p0] w (Ret fun v w' => v = .int .u8 ((r0.toNat : Nat) : Int) ∧ Own w D w' []) := by
 refine Calls.body (args := [.bool p0]) Tryz.func55 rfl rfl rfl ?_
 show Wp _ _ _ [(0, .bool p0)] _ _
 refine sr (An rfl (Wp.seq (sr (Mn rfl ?_))))
 rcases Bool.eq_false_or_eq_true (p0) with h21 | h21
 refine jT h21 (sr (An rfl (rt (tR (rs ?_)))))
 have H22 : Own w D w [] := H.pk []
 obtain rfl : _ = (1 : UInt8) := hr.symm.trans (ip h21)
 exact ⟨rfl, H22⟩
 refine jF h21 (sk (sr (An rfl (rt (rs ?_)))))
 have H23 : Own w D w [] := H.pk []
 obtain rfl : _ = (0 : UInt8) := hr.symm.trans (ifF h21)
 exact ⟨rfl, H23⟩
def wire_texts_L0 : List (List UInt8) → List UInt8 → (List UInt8)
  | [], l23 => l23
  | x37 :: q25, l23 => bnd (octet_Text x37) fun yr46 => wire_texts_L0 q25 (l23 ++ yr46)
def wire_texts (l0 : List UInt8) (l1 : List (List UInt8)) : (List UInt8) :=
 bnd (wire_texts_L0 l1 l0) fun sLrL => sLrL
set_option maxRecDepth 100000 in
theorem wire_texts_ok (w : World) (D : Nat → Prop) (A0 : Option Addr) (n0 c0 : Nat) (l0 : List UInt8) (A1 : Option Addr) (n1 c1 : Nat) (l1 : List (List UInt8)) (r0 : List UInt8) (H : Own w D w [row A0 n0 c0 (List.flatMap eB l0) 5 1]) (hn0 : n0 = l0.length) (hl0 : l0.length * 1 ≤ 211106232532992) (hx1 : Ro w D fun w' => Rds w' 1 A1 n1 (List.flatMap eS l1)) (hn1 : n1 = l1.length) (hl1 : l1.length * 16 ≤ 211106232532992) (hh0 : l0.length ≤ 5000000000) (hh1 : (l1.length ≤ 4 ∧ ∀ x ∈ l1, x.length ≤ 16)) (hr : wire_texts l0 l1 = r0) :
    Calls Tryz.prog 56 #[.slice A0 n0 c0, .slice A1 n1 c1] w (Ret fun v w' => ∃ (B0 : Option Addr) (b0 : Nat), v = .slice B0 r0.length b0 ∧ Own w D w' [row B0 r0.length b0 (List.flatMap eB r0) 5 1] ∧ (r0.length ≤ l0.length + 26 * l1.length)) := by
 subst hn0 hn1
 have hc0 := H.rowC (i := 0) rfl
 have hh1a := hh1.1
 refine Calls.body (args := [.slice A0 l0.length c0, .slice A1 l1.length c1]) Tryz.func56 rfl rfl rfl ?_
 show Wp _ _ _ [(0, .slice A0 l0.length c0), (1, .slice A1 l1.length c1)] _ _
 refine sr (An rfl (Wp.seq (sr (Mz rfl (Kz (.int .i64 ((l1.length : Nat) : Int)) (Mn rfl (bo ?_)))))))
 have H26 : Own w D w [row A0 l0.length c0 (List.flatMap eB l0) 5 1] := H.pk [0]
 obtain ⟨I30, hI31⟩ : ∃ q : ((Option Addr) × Nat × (List UInt8) × Nat) → World → Prop, q = fun (i : (Option Addr) × Nat × (List UInt8) × Nat) w' => Own w D w' [row i.1 i.2.2.1.length i.2.1 (List.flatMap eB i.2.2.1) 5 1] ∧ (i.2.2.2 ≤ l1.length ∧ ((i.2.2.1.length : Nat) : Int) ≤ ((l0.length : Nat) : Int) + 26 * ((i.2.2.2 : Nat) : Int) ∧ wire_texts_L0 l1 l0 = wire_texts_L0 (List.drop i.2.2.2 l1) i.2.2.1) := ⟨_, rfl⟩
 have dm32 : ∀ {A21 : Option Addr} {c22 : Nat} {l23 : List UInt8} {k24 : Nat} {w' : World}, I30 (A21, c22, l23, k24) w' ↔ Own w D w' [row A21 l23.length c22 (List.flatMap eB l23) 5 1] ∧ k24 ≤ l1.length ∧ ((l23.length : Nat) : Int) ≤ ((l0.length : Nat) : Int) + 26 * ((k24 : Nat) : Int) ∧ wire_texts_L0 l1 l0 = wire_texts_L0 (List.drop k24 l1) l23 := by intros; subst hI31; exact Iff.rfl
 refine Wp.loop (fun i : (Option Addr) × Nat × (List UInt8) × Nat => [(0, .slice i.1 i.2.2.1.length i.2.1), (9, .int .i64 ((i.2.2.2 : Nat) : Int)), (8, .int .i64 ((l1.length : Nat) : Int)), (7, .slice A1 l1.length c1), (4, .slice none 0 0)]) I30 (fun i => l1.length - i.2.2.2) (A0, c0, l0, 0) ⟨rfl, rfl, rfl, rfl, rfl, trivial⟩ (dm32.2 ⟨H26, by omega, by omega, rfl⟩) ?_
 rintro ⟨A21, c22, l23, k24⟩ w27 hf29
 show Wp _ _ _ [(0, .slice A21 l23.length c22), (9, .int .i64 ((k24 : Nat) : Int)), (8, .int .i64 ((l1.length : Nat) : Int)), (7, .slice A1 l1.length c1), (4, .slice none 0 0)] _ _
 obtain ⟨H28, hi34, hi35, hq33⟩ := dm32.1 hf29
 refine sr (Kz (.bool (decide (((k24 : Nat) : Int) < ((l1.length : Nat) : Int)))) (nt (Wp.seq ?_)))
 by_cases h36 : ((k24 : Nat) : Int) < ((l1.length : Nat) : Int)
 obtain ⟨x37, hx38⟩ := rds_at (ls := l1) (i := k24) eS_len (by decide) (H28.ro hx1) (by first | omega | (simp; done) | (simp; omega))
 have hz39 : x37.length ≤ 16 := hh1.2 _ (List.mem_of_getElem? hx38)
 have hd40 := drop_at hx38
 refine jT (dT h36) (sk (Wp.seq (bo (sr (fw (.pointer (some ⟨ab A1, ao A1 + k24 * 1, none⟩)) (Yl.indexAddr (El141) rfl rfl ((H28.ro hx1).addr (i := k24) (by omega)) (by omega)) (fw (.string ⟨List.toArray x37⟩) (Yl.load rfl (Lds.one Tryz.isAgg9 (((H28.ro hx1).elem eS_len hx38 (by decide)).at_ (k := 0) rfl))) (An rfl (Wp.region (Mz rfl (Mz rfl ?_))))))))))
 obtain ⟨r46, hr47⟩ : ∃ q, octet_Text x37 = q := ⟨_, rfl⟩
 obtain ⟨D41, HP42, ro43, bk44, rr45⟩ := Own.enter0 H28
 refine cl Tryz.call99 (octet_Text_ok _ _ x37 r46 HP42 (by omega) hr47) ?_
 rintro _ w48 ⟨A51, c52, rfl, HQ49, hk53, hk54⟩
 have H50 := bk44 _ _ HQ49
 have hb55 := H50.rowC (i := 0) rfl
 replace hk53 : r46.length ≤ x37.length + 10 := hk53
 replace hk54 : x37.length ≥ 128 ∨ r46.length = x37.length + 1 := hk54
 have H56 := H50.pk [1, 0]
 refine WL.do rfl (Do.appendW (k := l23.length) (m := r46.length) (El31) H56 rfl rfl (src_of Tryz.underlying31 (H56.rds (i := 1) rfl) (flat_one eB_one r46)) rfl (by omega) (s := List.length (l23 ++ r46)) (by first | omega | (simp only [List.length_append, List.length_cons, List.length_nil] <;> omega)) (List.flatMap_append).symm ?_)
 intro A57 c58 w59 H60
 have hl61 : List.length (l23 ++ r46) = l23.length + r46.length := by simp only [List.length_append, List.length_cons, List.length_nil]
 refine Az rfl (WL.nil (bN (Fin.then (Wp.region (fw (.int .i64 ((k24 + 1 : Nat) : Int)) (Yl.int (e := IntKind.i64.wrap (((k24 : Nat) : Int) + 1)) yk (by rw [IntWalk.i64_in _ (by omega)]; omega)) (Mz rfl (WL.nil ?_)))))))
 have H62 := H60.pk [0]
 exact Fin.round (A57, c58, (l23 ++ r46), k24 + 1) ⟨rfl, rfl, rfl, rfl, rfl, trivial⟩ (dm32.2 ⟨H62, by omega, by omega, et (hq33) (et (congrArg (fun q => wire_texts_L0 q l23) hd40) (bnd_of hr47))⟩) (by show l1.length - (k24 + 1) < l1.length - k24; omega)
 refine jF (dF h36) (Wp.exit (Fin.thenX ?_))
 have hL63 : wire_texts_L0 l1 l0 = l23 := et (hq33) (et (congrArg (fun q => wire_texts_L0 q l23) (drop_end (ls := l1) (i := k24) (by omega))) rfl)
 refine Fin.thenX (Fin.blockX (Fin.then (sr (Mz rfl (An rfl (rt (rs ?_)))))))
 have H64 := H28.pk [0]
 obtain rfl : _ = l23 := hr.symm.trans (bnd_of hL63)
 exact ⟨A21, c22, rfl, H64, (by first | omega | (simp only [List.length_cons, List.length_nil, List.length_append]; omega))⟩
def wire_writePair (l0 : List UInt8) (p1 : PairD) : (List UInt8) :=
 bnd (wire_texts l0 ([p1.xKey, p1.xValue])) fun yr33 => yr33
set_option maxRecDepth 100000 in
theorem wire_writePair_ok (w : World) (D : Nat → Prop) (A0 : Option Addr) (n0 c0 : Nat) (l0 : List UInt8) (p1 : PairD) (r0 : List UInt8) (H : Own w D w [row A0 n0 c0 (List.flatMap eB l0) 5 1]) (hn0 : n0 = l0.length) (hl0 : l0.length * 1 ≤ 211106232532992) (hh0 : l0.length ≤ 4000000000 ∧ p1.xKey.length ≤ 12 ∧ p1.xValue.length ≤ 16) (hr : wire_writePair l0 p1 = r0) :
    Calls Tryz.prog 101 #[.slice A0 n0 c0, .agg (PairD.cells p1).toArray] w (Ret fun v w' => ∃ (B0 : Option Addr) (b0 : Nat), v = .slice B0 r0.length b0 ∧ Own w D w' [row B0 r0.length b0 (List.flatMap eB r0) 5 1] ∧ (r0.length ≤ l0.length + 52)) := by
 subst hn0
 have hc0 := H.rowC (i := 0) rfl
 refine Calls.body (args := [.slice A0 l0.length c0, .agg (PairD.cells p1).toArray]) Tryz.func101 rfl rfl rfl ?_
 show Wp _ _ _ [(0, .slice A0 l0.length c0), (1, .agg (PairD.cells p1).toArray)] _ _
 refine sr ?_
 refine npw (PairD.cells p1) 86 H ?_
 intro g21 w22 H23
 refine Ar rfl (Mz rfl (Kz (.pointer (some ⟨g21, 0, none⟩)) (Lz (.string ⟨List.toArray p1.xKey⟩) H23 0 Tryz.isAgg9 (Kz (.pointer (some ⟨g21, 1, none⟩)) (Lz (.string ⟨List.toArray p1.xValue⟩) H23 0 Tryz.isAgg9 ?_)))))
 refine nrw [.string ⟨List.toArray p1.xKey⟩, .string ⟨List.toArray p1.xValue⟩] 9 1 2 H23 ?_
 intro A24 w25 H26
 replace H26 := Own.reh (y := row A24 2 2 (List.flatMap eS ([p1.xKey, p1.xValue])) 9 1) rfl H26
 have H27 := H26.pk [2, 0, 1]
 obtain ⟨r33, hr34⟩ : ∃ q, wire_texts l0 ([p1.xKey, p1.xValue]) = q := ⟨_, rfl⟩
 obtain ⟨D28, HP29, ro30, bk31, rr32⟩ := Own.enter1 H27
 refine WL.do rfl (Do.call Tryz.call56 rfl (wire_texts_ok _ _ A0 l0.length c0 l0 A24 2 2 ([p1.xKey, p1.xValue]) r33 HP29 rfl (by omega) (rr32 _ 0 _ rfl row_rds) rfl (by simp) (by first | omega | (simp only [List.length_cons, List.length_nil, List.length_append]; omega)) (by refine ⟨Nat.le_of_ble_eq_true rfl, ?_⟩; simp only [List.mem_cons, List.not_mem_nil, or_false, forall_eq_or_imp, forall_eq]; omega) hr34) ?_)
 rintro _ w35 ⟨A38, c39, rfl, HQ36, hk40⟩
 have H37 := bk31 _ _ HQ36
 have hb41 := H37.rowC (i := 0) rfl
 replace hk40 : r33.length ≤ l0.length + 26 * 2 := hk40
 refine An rfl (rt (rs ?_))
 have H42 := H37.pk [0]
 obtain rfl : _ = r33 := hr.symm.trans (bnd_of hr34)
 exact ⟨A38, c39, rfl, H42, (by first | omega | (simp only [List.length_cons, List.length_nil, List.length_append]; omega))⟩
def wire_list_api_Pair_L0 : List PairD → List UInt8 → (List UInt8)
  | [], l45 => l45
  | x59 :: q47, l45 => bnd (wire_writePair l45 x59) fun yr74 => wire_list_api_Pair_L0 q47 yr74
def wire_list_api_Pair (l0 : List UInt8) (l1 : List PairD) : (List UInt8) :=
 bnd (octet_Num l1.length) fun yr26 => bnd (wire_list_api_Pair_L0 l1 (l0 ++ yr26)) fun sLrbL => sLrbL
set_option maxRecDepth 100000 in
theorem wire_list_api_Pair_ok (w : World) (D : Nat → Prop) (A0 : Option Addr) (n0 c0 : Nat) (l0 : List UInt8) (A1 : Option Addr) (n1 c1 : Nat) (l1 : List PairD) (r0 : List UInt8) (H : Own w D w [row A0 n0 c0 (List.flatMap eB l0) 5 1]) (hn0 : n0 = l0.length) (hl0 : l0.length * 1 ≤ 211106232532992) (hx1 : Ro w D fun w' => Rds w' 2 A1 n1 (List.flatMap PairD.cells l1)) (hn1 : n1 = l1.length) (hl1 : l1.length * 32 ≤ 211106232532992) (hh0 : l0.length ≤ 3000000000) (hh1 : (l1.length ≤ 4 ∧ ∀ x ∈ l1, x.xKey.length ≤ 12 ∧ x.xValue.length ≤ 16)) (hr : wire_list_api_Pair l0 l1 = r0) :
    Calls Tryz.prog 100 #[.slice A0 n0 c0, .slice A1 n1 c1, .func (.func 101) #[] #[]] w (Ret fun v w' => ∃ (B0 : Option Addr) (b0 : Nat), v = .slice B0 r0.length b0 ∧ Own w D w' [row B0 r0.length b0 (List.flatMap eB r0) 5 1] ∧ (r0.length ≤ l0.length + 10 + 52 * l1.length)) := by
 subst hn0 hn1
 have hc0 := H.rowC (i := 0) rfl
 have hh1a := hh1.1
 refine Calls.body (args := [.slice A0 l0.length c0, .slice A1 l1.length c1, .func (.func 101) #[] #[]]) Tryz.func100 rfl rfl rfl ?_
 show Wp _ _ _ [(0, .slice A0 l0.length c0), (1, .slice A1 l1.length c1), (2, .func (.func 101) #[] #[])] _ _
 refine sr (Ar rfl (Mz rfl (Mz rfl (Kz (.int .i64 ((l1.length : Nat) : Int)) (fw (.int .u64 ((l1.length : Nat) : Int)) (Yl.int (e := IntKind.u64.wrap ((l1.length : Nat) : Int)) yk (IntWalk.u64_in _ (by omega))) ?_)))))
 obtain ⟨r26, hr27⟩ : ∃ q, octet_Num l1.length = q := ⟨_, rfl⟩
 obtain ⟨D21, HP22, ro23, bk24, rr25⟩ := Own.enter0 H
 refine cl Tryz.call51 (octet_Num_ok _ _ l1.length r26 HP22 (by omega) hr27) ?_
 rintro _ w28 ⟨A31, c32, rfl, HQ29, hk33, hk34⟩
 have H30 := bk24 _ _ HQ29
 have hb35 := H30.rowC (i := 0) rfl
 replace hk33 : 1 ≤ r26.length ∧ r26.length ≤ 10 := hk33
 replace hk34 : l1.length ≥ 128 ∨ r26.length = 1 := hk34
 have H36 := H30.pk [1, 0]
 refine WL.do rfl (Do.appendW (k := l0.length) (m := r26.length) (El31) H36 rfl rfl (src_of Tryz.underlying31 (H36.rds (i := 1) rfl) (flat_one eB_one r26)) rfl (by omega) (s := List.length (l0 ++ r26)) (by first | omega | (simp only [List.length_append, List.length_cons, List.length_nil] <;> omega)) (List.flatMap_append).symm ?_)
 intro A37 c38 w39 H40
 have hl41 : List.length (l0 ++ r26) = l0.length + r26.length := by simp only [List.length_append, List.length_cons, List.length_nil]
 refine An rfl (Wp.seq (Wp.seq ?_))
 have H42 := H40.pk [0]
 refine Wp.region (Mz rfl (Kz (.int .i64 ((l1.length : Nat) : Int)) (Mn rfl (bo ?_))))
 have H48 := H42.pk [0]
 obtain ⟨I52, hI53⟩ : ∃ q : ((Option Addr) × Nat × (List UInt8) × Nat) → World → Prop, q = fun (i : (Option Addr) × Nat × (List UInt8) × Nat) w' => Own w D w' [row i.1 i.2.2.1.length i.2.1 (List.flatMap eB i.2.2.1) 5 1] ∧ (i.2.2.2 ≤ l1.length ∧ ((i.2.2.1.length : Nat) : Int) ≤ ((l0.length : Nat) : Int) + 10 + 52 * ((i.2.2.2 : Nat) : Int) ∧ wire_list_api_Pair_L0 l1 (l0 ++ r26) = wire_list_api_Pair_L0 (List.drop i.2.2.2 l1) i.2.2.1) := ⟨_, rfl⟩
 have dm54 : ∀ {A43 : Option Addr} {c44 : Nat} {l45 : List UInt8} {k46 : Nat} {w' : World}, I52 (A43, c44, l45, k46) w' ↔ Own w D w' [row A43 l45.length c44 (List.flatMap eB l45) 5 1] ∧ k46 ≤ l1.length ∧ ((l45.length : Nat) : Int) ≤ ((l0.length : Nat) : Int) + 10 + 52 * ((k46 : Nat) : Int) ∧ wire_list_api_Pair_L0 l1 (l0 ++ r26) = wire_list_api_Pair_L0 (List.drop k46 l1) l45 := by intros; subst hI53; exact Iff.rfl
 refine Wp.loop (fun i : (Option Addr) × Nat × (List UInt8) × Nat => [(0, .slice i.1 i.2.2.1.length i.2.1), (17, .int .i64 ((i.2.2.2 : Nat) : Int)), (16, .int .i64 ((l1.length : Nat) : Int)), (15, .slice A1 l1.length c1), (6, .slice none 0 0), (2, .func (.func 101) #[] #[])]) I52 (fun i => l1.length - i.2.2.2) (A37, c38, (l0 ++ r26), 0) ⟨rfl, rfl, rfl, rfl, rfl, rfl, trivial⟩ (dm54.2 ⟨H48, by omega, by omega, rfl⟩) ?_
 rintro ⟨A43, c44, l45, k46⟩ w49 hf51
 show Wp _ _ _ [(0, .slice A43 l45.length c44), (17, .int .i64 ((k46 : Nat) : Int)), (16, .int .i64 ((l1.length : Nat) : Int)), (15, .slice A1 l1.length c1), (6, .slice none 0 0), (2, .func (.func 101) #[] #[])] _ _
 obtain ⟨H50, hi56, hi57, hq55⟩ := dm54.1 hf51
 refine sr (Kz (.bool (decide (((k46 : Nat) : Int) < ((l1.length : Nat) : Int)))) (nt (Wp.seq ?_)))
 by_cases h58 : ((k46 : Nat) : Int) < ((l1.length : Nat) : Int)
 obtain ⟨x59, hx60⟩ := rds_at (ls := l1) (i := k46) PairD.len (by decide) (H50.ro hx1) (by first | omega | (simp; done) | (simp; omega))
 have hz61 : x59.xKey.length ≤ 12 ∧ x59.xValue.length ≤ 16 := hh1.2 _ (List.mem_of_getElem? hx60)
 have hd62 := drop_at hx60
 refine jT (dT h58) (sk (Wp.seq (bo (sr (fw (.pointer (some ⟨ab A1, ao A1 + k46 * 2, none⟩)) (Yl.indexAddr (El82) rfl rfl ((H50.ro hx1).addr (i := k46) (by omega)) (by omega)) (fw (.agg (PairD.cells x59).toArray) (Yl.load rfl (Lds.agg (cs := (PairD.cells x59)) Tryz.isAgg86 Tryz.sizeOf86 ((H50.ro hx1).elem PairD.len hx60 (by decide)))) ?_))))))
 refine npw [.string ⟨List.toArray ([])⟩, .string ⟨List.toArray ([])⟩] 86 H50 ?_
 intro g63 w64 H65
 refine sto (PairD.cells x59) 0 H65 Tryz.sizeOf86 ?_
 intro w66 H67
 refine nt (Wp.region (Mz rfl (Mz rfl (La (PairD.cells x59) H67 0 Tryz.isAgg86 Tryz.sizeOf86 ?_))))
 have H68 := H67.pk [1, 0]
 obtain ⟨r74, hr75⟩ : ∃ q, wire_writePair l45 x59 = q := ⟨_, rfl⟩
 obtain ⟨D69, HP70, ro71, bk72, rr73⟩ := Own.enter1 H68
 refine WL.do rfl (Do.callV Tryz.call101 rfl rfl (wire_writePair_ok _ _ A43 l45.length c44 l45 x59 r74 HP70 rfl (by omega) (by omega) hr75) ?_)
 rintro _ w76 ⟨A79, c80, rfl, HQ77, hk81⟩
 have H78 := bk72 _ _ HQ77
 have hb82 := H78.rowC (i := 0) rfl
 replace hk81 : r74.length ≤ l45.length + 52 := hk81
 refine Az rfl (WL.nil (bN (Fin.then (Wp.region (fw (.int .i64 ((k46 + 1 : Nat) : Int)) (Yl.int (e := IntKind.i64.wrap (((k46 : Nat) : Int) + 1)) yk (by rw [IntWalk.i64_in _ (by omega)]; omega)) (Mz rfl (WL.nil ?_)))))))
 have H83 := H78.pk [0]
 exact Fin.round (A79, c80, r74, k46 + 1) ⟨rfl, rfl, rfl, rfl, rfl, rfl, trivial⟩ (dm54.2 ⟨H83, by omega, by omega, et (hq55) (et (congrArg (fun q => wire_list_api_Pair_L0 q l45) hd62) (bnd_of hr75))⟩) (by show l1.length - (k46 + 1) < l1.length - k46; omega)
 refine jF (dF h58) (Wp.exit (Fin.thenX ?_))
 have hL84 : wire_list_api_Pair_L0 l1 (l0 ++ r26) = l45 := et (hq55) (et (congrArg (fun q => wire_list_api_Pair_L0 q l45) (drop_end (ls := l1) (i := k46) (by omega))) rfl)
 refine Fin.thenX (Fin.blockX (Fin.then (sr (Mz rfl (An rfl (rt (rs ?_)))))))
 have H85 := H50.pk [0]
 obtain rfl : _ = l45 := hr.symm.trans (et (bnd_of hr27) (bnd_of hL84))
 exact ⟨A43, c44, rfl, H85, (by first | omega | (simp only [List.length_cons, List.length_nil, List.length_append]; omega))⟩
def wire_writeOp (l0 : List UInt8) (p1 : OpD) : (List UInt8) :=
 bnd (wire_texts (l0 ++ [(u8I p1.xKind)]) ([p1.xKey, p1.xValue, p1.xLo, p1.xHi])) fun yr549 => (yr549 ++ [(u8I p1.xMost)])
set_option maxRecDepth 100000 in
theorem wire_writeOp_ok (w : World) (D : Nat → Prop) (A0 : Option Addr) (n0 c0 : Nat) (l0 : List UInt8) (p1 : OpD) (r0 : List UInt8) (H : Own w D w [row A0 n0 c0 (List.flatMap eB l0) 5 1]) (hn0 : n0 = l0.length) (hl0 : l0.length * 1 ≤ 211106232532992) (hh0 : l0.length ≤ 4000000000 ∧ p1.xKey.length ≤ 12 ∧ p1.xValue.length ≤ 16 ∧ p1.xLo.length ≤ 12 ∧ p1.xHi.length ≤ 12) (hr : wire_writeOp l0 p1 = r0) :
    Calls Tryz.prog 58 #[.slice A0 n0 c0, .agg (OpD.cells p1).toArray] w (Ret fun v w' => ∃ (B0 : Option Addr) (b0 : Nat), v = .slice B0 r0.length b0 ∧ Own w D w' [row B0 r0.length b0 (List.flatMap eB r0) 5 1] ∧ (r0.length ≤ l0.length + 106)) := by
 subst hn0
 have hc0 := H.rowC (i := 0) rfl
 refine Calls.body (args := [.slice A0 l0.length c0, .agg (OpD.cells p1).toArray]) Tryz.func58 rfl rfl rfl ?_
 show Wp _ _ _ [(0, .slice A0 l0.length c0), (1, .agg (OpD.cells p1).toArray)] _ _
 refine sr ?_
 refine npw (OpD.cells p1) 64 H ?_
 intro g21 w22 H23
 refine An rfl (Wp.seq ?_)
 have H25 := H23.drew
 refine Wp.drawnX [] (fun W => ∃ L', Own w D W ([blk g21 (OpD.cells p1) 64] ++ L')) (by kernel_rfl) (by kernel_rfl) (NoP.then NoP.base) ⟨_, H25⟩ ?_
 revert H25
 generalize World.drew w22 = w24
 intro H25
 refine GX.take (v := .slice A0 l0.length c0) (rs := []) 0 rfl (by kernel_rfl) (fun _ _ => Yl.move rfl) (GX.take (v := .pointer (some ⟨g21, 0, none⟩)) (rs := []) 1 rfl (by kernel_rfl) (fun _ _ => yk) (GX.take (v := .int .i64 p1.xKind) (rs := []) 2 rfl (by kernel_rfl) (fun _ ⟨_, H9⟩ => Yl.load rfl (Lds.one Tryz.isAgg3 (Cls.of (H9.cls (i := 0) rfl) rfl))) (GX.take (v := .int .u8 (((u8I p1.xKind).toNat : Nat) : Int)) (rs := []) 3 rfl (by kernel_rfl) (fun _ _ => Yl.int (e := IntKind.u8.wrap p1.xKind) yk (u8I_wrap _)) (GX.take (v := .pointer (some ⟨g21, 1, none⟩)) (rs := []) 6 rfl (by kernel_rfl) (fun _ _ => yk) (GX.take (v := .string ⟨List.toArray p1.xKey⟩) (rs := []) 7 rfl (by kernel_rfl) (fun _ ⟨_, H9⟩ => Yl.load rfl (Lds.one Tryz.isAgg9 (Cls.of (H9.cls (i := 0) rfl) rfl))) (GX.take (v := .pointer (some ⟨g21, 2, none⟩)) (rs := []) 8 rfl (by kernel_rfl) (fun _ _ => yk) (GX.take (v := .string ⟨List.toArray p1.xValue⟩) (rs := []) 9 rfl (by kernel_rfl) (fun _ ⟨_, H9⟩ => Yl.load rfl (Lds.one Tryz.isAgg9 (Cls.of (H9.cls (i := 0) rfl) rfl))) (GX.take (v := .pointer (some ⟨g21, 3, none⟩)) (rs := []) 10 rfl (by kernel_rfl) (fun _ _ => yk) (GX.take (v := .string ⟨List.toArray p1.xLo⟩) (rs := []) 11 rfl (by kernel_rfl) (fun _ ⟨_, H9⟩ => Yl.load rfl (Lds.one Tryz.isAgg9 (Cls.of (H9.cls (i := 0) rfl) rfl))) (GX.take (v := .pointer (some ⟨g21, 4, none⟩)) (rs := []) 12 rfl (by kernel_rfl) (fun _ _ => yk) (GX.take (v := .string ⟨List.toArray p1.xHi⟩) (rs := []) 13 rfl (by kernel_rfl) (fun _ ⟨_, H9⟩ => Yl.load rfl (Lds.one Tryz.isAgg9 (Cls.of (H9.cls (i := 0) rfl) rfl))) (GX.take (v := .pointer (some ⟨g21, 5, none⟩)) (rs := []) 16 rfl (by kernel_rfl) (fun _ _ => yk) (GX.take (v := .int .i64 p1.xMost) (rs := []) 17 rfl (by kernel_rfl) (fun _ ⟨_, H9⟩ => Yl.load rfl (Lds.one Tryz.isAgg3 (Cls.of (H9.cls (i := 0) rfl) rfl))) (GX.take (v := .int .u8 (((u8I p1.xMost).toNat : Nat) : Int)) (rs := []) 18 rfl (by kernel_rfl) (fun _ _ => Yl.int (e := IntKind.u8.wrap p1.xMost) yk (u8I_wrap _)) ?_))))))))))))))
 refine GX.any3 4 14 19 (by kernel_rfl) ?_ ?_ ?_
 refine GY.do 4 rfl (by kernel_rfl) (Do.newRow (cs := [.int .u8 (((u8I p1.xKind).toNat : Nat) : Int)]) (t := 5) (sz := 1) (m := 1) H25 rfl rfl (fun _ => by kernel_rfl) rfl (by decide) ?_)
 intro A26 w27 H28
 replace H28 := Own.reh (y := row A26 1 1 (List.flatMap eB ([(u8I p1.xKind)])) 5 1) rfl H28
 have H29 := H28.pk [1, 0, 2]
 refine ⟨.inr ⟨_, H29⟩, ?_⟩
 refine GX.any3 5 14 19 (by kernel_rfl) ?_ ?_ ?_
 have H30 := H29.pk [2, 0, 1]
 refine GY.do 5 rfl (by kernel_rfl) (Do.appendW (k := l0.length) (m := 1) (El31) H30 rfl rfl (src_of Tryz.underlying31 (H30.rds (i := 2) rfl) (flat_one eB_one ([(u8I p1.xKind)]))) rfl (by omega) (s := List.length (l0 ++ [(u8I p1.xKind)])) (by first | omega | (simp only [List.length_append, List.length_cons, List.length_nil] <;> omega)) (List.flatMap_append).symm ?_)
 intro A31 c32 w33 H34
 have hl35 : List.length (l0 ++ [(u8I p1.xKind)]) = l0.length + 1 := by simp only [List.length_append, List.length_cons, List.length_nil]
 have H36 := H34.pk [1, 0, 2]
 refine ⟨.inr ⟨_, H36⟩, ?_⟩
 refine GX.any2 14 19 (by kernel_rfl) ?_ ?_
 refine GY.do 14 rfl (by kernel_rfl) (Do.newRow (cs := [.string ⟨List.toArray p1.xKey⟩, .string ⟨List.toArray p1.xValue⟩, .string ⟨List.toArray p1.xLo⟩, .string ⟨List.toArray p1.xHi⟩]) (t := 9) (sz := 1) (m := 4) H36 rfl rfl (fun _ => by kernel_rfl) rfl (by decide) ?_)
 intro A37 w38 H39
 replace H39 := Own.reh (y := row A37 4 4 (List.flatMap eS ([p1.xKey, p1.xValue, p1.xLo, p1.xHi])) 9 1) rfl H39
 have H40 := H39.pk [1, 0, 2, 3]
 refine ⟨.inr ⟨_, H40⟩, ?_⟩
 refine GX.any2 15 19 (by kernel_rfl) ?_ ?_
 have H41 := H40.pk [2, 0, 1, 3]
 obtain ⟨r47, hr48⟩ : ∃ q, wire_texts (l0 ++ [(u8I p1.xKind)]) ([p1.xKey, p1.xValue, p1.xLo, p1.xHi]) = q := ⟨_, rfl⟩
 obtain ⟨D42, HP43, ro44, bk45, rr46⟩ := Own.enter1 H41
 refine GY.do 15 rfl (by kernel_rfl) (Do.call Tryz.call56 rfl (wire_texts_ok _ _ A31 (List.length (l0 ++ [(u8I p1.xKind)])) c32 (l0 ++ [(u8I p1.xKind)]) A37 4 4 ([p1.xKey, p1.xValue, p1.xLo, p1.xHi]) r47 HP43 rfl (by first | omega | (simp only [List.length_append, List.length_cons, List.length_nil, List.length_take, List.length_drop, List.length_set]; omega)) (rr46 _ 1 _ rfl row_rds) rfl (by simp) (by first | omega | (simp only [List.length_cons, List.length_nil, List.length_append]; omega)) (by refine ⟨Nat.le_of_ble_eq_true rfl, ?_⟩; simp only [List.mem_cons, List.not_mem_nil, or_false, forall_eq_or_imp, forall_eq]; omega) hr48) ?_)
 rintro _ w49 ⟨A52, c53, rfl, HQ50, hk54⟩
 have H51 := bk45 _ _ HQ50
 have hb55 := H51.rowC (i := 0) rfl
 replace hk54 : r47.length ≤ List.length (l0 ++ [(u8I p1.xKind)]) + 26 * 4 := hk54
 have H56 := H51.pk [1, 0, 2, 3]
 refine ⟨.inr ⟨_, H56⟩, ?_⟩
 refine GX.do 19 rfl (by kernel_rfl) (Do.newRow (cs := [.int .u8 (((u8I p1.xMost).toNat : Nat) : Int)]) (t := 5) (sz := 1) (m := 1) H56 rfl rfl (fun _ => by kernel_rfl) rfl (by decide) ?_)
 intro A57 w58 H59
 replace H59 := Own.reh (y := row A57 1 1 (List.flatMap eB ([(u8I p1.xMost)])) 5 1) rfl H59
 have H60 := H59.pk [1, 0, 2, 3, 4]
 refine ⟨.inr ⟨_, H60⟩, ?_⟩
 have H61 := H60.pk [2, 0, 1, 3, 4]
 refine GX.do 20 rfl (by kernel_rfl) (Do.appendW (k := r47.length) (m := 1) (El31) H61 rfl rfl (src_of Tryz.underlying31 (H61.rds (i := 2) rfl) (flat_one eB_one ([(u8I p1.xMost)]))) rfl (by omega) (s := List.length (r47 ++ [(u8I p1.xMost)])) (by first | omega | (simp only [List.length_append, List.length_cons, List.length_nil] <;> omega)) (List.flatMap_append).symm ?_)
 intro A62 c63 w64 H65
 have hl66 : List.length (r47 ++ [(u8I p1.xMost)]) = r47.length + 1 := by simp only [List.length_append, List.length_cons, List.length_nil]
 have H67 := H65.pk [1, 0, 2, 3, 4]
 refine ⟨.inr ⟨_, H67⟩, ?_⟩
 refine GX.take (v := .slice A62 (List.length (r47 ++ [(u8I p1.xMost)])) c63) (rs := []) 21 rfl (by kernel_rfl) (fun _ _ => Yl.assign rfl) (GX.done (by kernel_rfl) (Fin.then (rt (rs ?_))))
 have H68 := H67.pk [1]
 obtain rfl : _ = (r47 ++ [(u8I p1.xMost)]) := hr.symm.trans (bnd_of hr48)
 exact ⟨A62, c63, rfl, H68, (by first | omega | (simp only [List.length_cons, List.length_nil, List.length_append]; omega))⟩
 refine GY.do 19 rfl (by kernel_rfl) (Do.newRow (cs := [.int .u8 (((u8I p1.xMost).toNat : Nat) : Int)]) (t := 5) (sz := 1) (m := 1) H40 rfl rfl (fun _ => by kernel_rfl) rfl (by decide) ?_)
 intro A69 w70 H71
 replace H71 := Own.reh (y := row A69 1 1 (List.flatMap eB ([(u8I p1.xMost)])) 5 1) rfl H71
 have H72 := H71.pk [1, 0, 2, 3, 4]
 refine ⟨.inr ⟨_, H72⟩, ?_⟩
 have H73 := H72.pk [3, 0, 1, 2, 4]
 obtain ⟨r79, hr80⟩ : ∃ q, wire_texts (l0 ++ [(u8I p1.xKind)]) ([p1.xKey, p1.xValue, p1.xLo, p1.xHi]) = q := ⟨_, rfl⟩
 obtain ⟨D74, HP75, ro76, bk77, rr78⟩ := Own.enter1 H73
 refine GX.do 15 rfl (by kernel_rfl) (Do.call Tryz.call56 rfl (wire_texts_ok _ _ A31 (List.length (l0 ++ [(u8I p1.xKind)])) c32 (l0 ++ [(u8I p1.xKind)]) A37 4 4 ([p1.xKey, p1.xValue, p1.xLo, p1.xHi]) r79 HP75 rfl (by first | omega | (simp only [List.length_append, List.length_cons, List.length_nil, List.length_take, List.length_drop, List.length_set]; omega)) (rr78 _ 2 _ rfl row_rds) rfl (by simp) (by first | omega | (simp only [List.length_cons, List.length_nil, List.length_append]; omega)) (by refine ⟨Nat.le_of_ble_eq_true rfl, ?_⟩; simp only [List.mem_cons, List.not_mem_nil, or_false, forall_eq_or_imp, forall_eq]; omega) hr80) ?_)
 rintro _ w81 ⟨A84, c85, rfl, HQ82, hk86⟩
 have H83 := bk77 _ _ HQ82
 have hb87 := H83.rowC (i := 0) rfl
 replace hk86 : r79.length ≤ List.length (l0 ++ [(u8I p1.xKind)]) + 26 * 4 := hk86
 have H88 := H83.pk [1, 0, 2, 3, 4]
 refine ⟨.inr ⟨_, H88⟩, ?_⟩
 have H89 := H88.pk [1, 0, 2, 3, 4]
 refine GX.do 20 rfl (by kernel_rfl) (Do.appendW (k := r79.length) (m := 1) (El31) H89 rfl rfl (src_of Tryz.underlying31 (H89.rds (i := 2) rfl) (flat_one eB_one ([(u8I p1.xMost)]))) rfl (by omega) (s := List.length (r79 ++ [(u8I p1.xMost)])) (by first | omega | (simp only [List.length_append, List.length_cons, List.length_nil] <;> omega)) (List.flatMap_append).symm ?_)
 intro A90 c91 w92 H93
 have hl94 : List.length (r79 ++ [(u8I p1.xMost)]) = r79.length + 1 := by simp only [List.length_append, List.length_cons, List.length_nil]
 have H95 := H93.pk [1, 0, 2, 3, 4]
 refine ⟨.inr ⟨_, H95⟩, ?_⟩
 refine GX.take (v := .slice A90 (List.length (r79 ++ [(u8I p1.xMost)])) c91) (rs := []) 21 rfl (by kernel_rfl) (fun _ _ => Yl.assign rfl) (GX.done (by kernel_rfl) (Fin.then (rt (rs ?_))))
 have H96 := H95.pk [1]
 obtain rfl : _ = (r79 ++ [(u8I p1.xMost)]) := hr.symm.trans (bnd_of hr80)
 exact ⟨A90, c91, rfl, H96, (by first | omega | (simp only [List.length_cons, List.length_nil, List.length_append]; omega))⟩
 refine GY.do 19 rfl (by kernel_rfl) (Do.newRow (cs := [.int .u8 (((u8I p1.xMost).toNat : Nat) : Int)]) (t := 5) (sz := 1) (m := 1) H36 rfl rfl (fun _ => by kernel_rfl) rfl (by decide) ?_)
 intro A97 w98 H99
 replace H99 := Own.reh (y := row A97 1 1 (List.flatMap eB ([(u8I p1.xMost)])) 5 1) rfl H99
 have H100 := H99.pk [1, 0, 2, 3]
 refine ⟨.inr ⟨_, H100⟩, ?_⟩
 refine GX.do 14 rfl (by kernel_rfl) (Do.newRow (cs := [.string ⟨List.toArray p1.xKey⟩, .string ⟨List.toArray p1.xValue⟩, .string ⟨List.toArray p1.xLo⟩, .string ⟨List.toArray p1.xHi⟩]) (t := 9) (sz := 1) (m := 4) H100 rfl rfl (fun _ => by kernel_rfl) rfl (by decide) ?_)
 intro A101 w102 H103
 replace H103 := Own.reh (y := row A101 4 4 (List.flatMap eS ([p1.xKey, p1.xValue, p1.xLo, p1.xHi])) 9 1) rfl H103
 have H104 := H103.pk [1, 0, 2, 3, 4]
 refine ⟨.inr ⟨_, H104⟩, ?_⟩
 have H105 := H104.pk [3, 0, 1, 2, 4]
 obtain ⟨r111, hr112⟩ : ∃ q, wire_texts (l0 ++ [(u8I p1.xKind)]) ([p1.xKey, p1.xValue, p1.xLo, p1.xHi]) = q := ⟨_, rfl⟩
 obtain ⟨D106, HP107, ro108, bk109, rr110⟩ := Own.enter1 H105
 refine GX.do 15 rfl (by kernel_rfl) (Do.call Tryz.call56 rfl (wire_texts_ok _ _ A31 (List.length (l0 ++ [(u8I p1.xKind)])) c32 (l0 ++ [(u8I p1.xKind)]) A101 4 4 ([p1.xKey, p1.xValue, p1.xLo, p1.xHi]) r111 HP107 rfl (by first | omega | (simp only [List.length_append, List.length_cons, List.length_nil, List.length_take, List.length_drop, List.length_set]; omega)) (rr110 _ 1 _ rfl row_rds) rfl (by simp) (by first | omega | (simp only [List.length_cons, List.length_nil, List.length_append]; omega)) (by refine ⟨Nat.le_of_ble_eq_true rfl, ?_⟩; simp only [List.mem_cons, List.not_mem_nil, or_false, forall_eq_or_imp, forall_eq]; omega) hr112) ?_)
 rintro _ w113 ⟨A116, c117, rfl, HQ114, hk118⟩
 have H115 := bk109 _ _ HQ114
 have hb119 := H115.rowC (i := 0) rfl
 replace hk118 : r111.length ≤ List.length (l0 ++ [(u8I p1.xKind)]) + 26 * 4 := hk118
 have H120 := H115.pk [1, 0, 2, 3, 4]
 refine ⟨.inr ⟨_, H120⟩, ?_⟩
 have H121 := H120.pk [1, 0, 2, 3, 4]
 refine GX.do 20 rfl (by kernel_rfl) (Do.appendW (k := r111.length) (m := 1) (El31) H121 rfl rfl (src_of Tryz.underlying31 (H121.rds (i := 3) rfl) (flat_one eB_one ([(u8I p1.xMost)]))) rfl (by omega) (s := List.length (r111 ++ [(u8I p1.xMost)])) (by first | omega | (simp only [List.length_append, List.length_cons, List.length_nil] <;> omega)) (List.flatMap_append).symm ?_)
 intro A122 c123 w124 H125
 have hl126 : List.length (r111 ++ [(u8I p1.xMost)]) = r111.length + 1 := by simp only [List.length_append, List.length_cons, List.length_nil]
 have H127 := H125.pk [1, 0, 2, 3, 4]
 refine ⟨.inr ⟨_, H127⟩, ?_⟩
 refine GX.take (v := .slice A122 (List.length (r111 ++ [(u8I p1.xMost)])) c123) (rs := []) 21 rfl (by kernel_rfl) (fun _ _ => Yl.assign rfl) (GX.done (by kernel_rfl) (Fin.then (rt (rs ?_))))
 have H128 := H127.pk [1]
 obtain rfl : _ = (r111 ++ [(u8I p1.xMost)]) := hr.symm.trans (bnd_of hr112)
 exact ⟨A122, c123, rfl, H128, (by first | omega | (simp only [List.length_cons, List.length_nil, List.length_append]; omega))⟩
 refine GY.do 14 rfl (by kernel_rfl) (Do.newRow (cs := [.string ⟨List.toArray p1.xKey⟩, .string ⟨List.toArray p1.xValue⟩, .string ⟨List.toArray p1.xLo⟩, .string ⟨List.toArray p1.xHi⟩]) (t := 9) (sz := 1) (m := 4) H29 rfl rfl (fun _ => by kernel_rfl) rfl (by decide) ?_)
 intro A129 w130 H131
 replace H131 := Own.reh (y := row A129 4 4 (List.flatMap eS ([p1.xKey, p1.xValue, p1.xLo, p1.xHi])) 9 1) rfl H131
 have H132 := H131.pk [1, 0, 2, 3]
 refine ⟨.inr ⟨_, H132⟩, ?_⟩
 refine GX.any2 5 19 (by kernel_rfl) ?_ ?_
 have H133 := H132.pk [3, 0, 1, 2]
 refine GY.do 5 rfl (by kernel_rfl) (Do.appendW (k := l0.length) (m := 1) (El31) H133 rfl rfl (src_of Tryz.underlying31 (H133.rds (i := 3) rfl) (flat_one eB_one ([(u8I p1.xKind)]))) rfl (by omega) (s := List.length (l0 ++ [(u8I p1.xKind)])) (by first | omega | (simp only [List.length_append, List.length_cons, List.length_nil] <;> omega)) (List.flatMap_append).symm ?_)
 intro A134 c135 w136 H137
 have hl138 : List.length (l0 ++ [(u8I p1.xKind)]) = l0.length + 1 := by simp only [List.length_append, List.length_cons, List.length_nil]
 have H139 := H137.pk [1, 0, 2, 3]
 refine ⟨.inr ⟨_, H139⟩, ?_⟩
 refine GX.any2 15 19 (by kernel_rfl) ?_ ?_
 have H140 := H139.pk [1, 0, 2, 3]
 obtain ⟨r146, hr147⟩ : ∃ q, wire_texts (l0 ++ [(u8I p1.xKind)]) ([p1.xKey, p1.xValue, p1.xLo, p1.xHi]) = q := ⟨_, rfl⟩
 obtain ⟨D141, HP142, ro143, bk144, rr145⟩ := Own.enter1 H140
 refine GY.do 15 rfl (by kernel_rfl) (Do.call Tryz.call56 rfl (wire_texts_ok _ _ A134 (List.length (l0 ++ [(u8I p1.xKind)])) c135 (l0 ++ [(u8I p1.xKind)]) A129 4 4 ([p1.xKey, p1.xValue, p1.xLo, p1.xHi]) r146 HP142 rfl (by first | omega | (simp only [List.length_append, List.length_cons, List.length_nil, List.length_take, List.length_drop, List.length_set]; omega)) (rr145 _ 1 _ rfl row_rds) rfl (by simp) (by first | omega | (simp only [List.length_cons, List.length_nil, List.length_append]; omega)) (by refine ⟨Nat.le_of_ble_eq_true rfl, ?_⟩; simp only [List.mem_cons, List.not_mem_nil, or_false, forall_eq_or_imp, forall_eq]; omega) hr147) ?_)
 rintro _ w148 ⟨A151, c152, rfl, HQ149, hk153⟩
 have H150 := bk144 _ _ HQ149
 have hb154 := H150.rowC (i := 0) rfl
 replace hk153 : r146.length ≤ List.length (l0 ++ [(u8I p1.xKind)]) + 26 * 4 := hk153
 have H155 := H150.pk [1, 0, 2, 3]
 refine ⟨.inr ⟨_, H155⟩, ?_⟩
 refine GX.do 19 rfl (by kernel_rfl) (Do.newRow (cs := [.int .u8 (((u8I p1.xMost).toNat : Nat) : Int)]) (t := 5) (sz := 1) (m := 1) H155 rfl rfl (fun _ => by kernel_rfl) rfl (by decide) ?_)
 intro A156 w157 H158
 replace H158 := Own.reh (y := row A156 1 1 (List.flatMap eB ([(u8I p1.xMost)])) 5 1) rfl H158
 have H159 := H158.pk [1, 0, 2, 3, 4]
 refine ⟨.inr ⟨_, H159⟩, ?_⟩
 have H160 := H159.pk [2, 0, 1, 3, 4]
 refine GX.do 20 rfl (by kernel_rfl) (Do.appendW (k := r146.length) (m := 1) (El31) H160 rfl rfl (src_of Tryz.underlying31 (H160.rds (i := 2) rfl) (flat_one eB_one ([(u8I p1.xMost)]))) rfl (by omega) (s := List.length (r146 ++ [(u8I p1.xMost)])) (by first | omega | (simp only [List.length_append, List.length_cons, List.length_nil] <;> omega)) (List.flatMap_append).symm ?_)
 intro A161 c162 w163 H164
 have hl165 : List.length (r146 ++ [(u8I p1.xMost)]) = r146.length + 1 := by simp only [List.length_append, List.length_cons, List.length_nil]
 have H166 := H164.pk [1, 0, 2, 3, 4]
 refine ⟨.inr ⟨_, H166⟩, ?_⟩
 refine GX.take (v := .slice A161 (List.length (r146 ++ [(u8I p1.xMost)])) c162) (rs := []) 21 rfl (by kernel_rfl) (fun _ _ => Yl.assign rfl) (GX.done (by kernel_rfl) (Fin.then (rt (rs ?_))))
 have H167 := H166.pk [1]
 obtain rfl : _ = (r146 ++ [(u8I p1.xMost)]) := hr.symm.trans (bnd_of hr147)
 exact ⟨A161, c162, rfl, H167, (by first | omega | (simp only [List.length_cons, List.length_nil, List.length_append]; omega))⟩
 refine GY.do 19 rfl (by kernel_rfl) (Do.newRow (cs := [.int .u8 (((u8I p1.xMost).toNat : Nat) : Int)]) (t := 5) (sz := 1) (m := 1) H139 rfl rfl (fun _ => by kernel_rfl) rfl (by decide) ?_)
 intro A168 w169 H170
 replace H170 := Own.reh (y := row A168 1 1 (List.flatMap eB ([(u8I p1.xMost)])) 5 1) rfl H170
 have H171 := H170.pk [1, 0, 2, 3, 4]
 refine ⟨.inr ⟨_, H171⟩, ?_⟩
 have H172 := H171.pk [2, 0, 1, 3, 4]
 obtain ⟨r178, hr179⟩ : ∃ q, wire_texts (l0 ++ [(u8I p1.xKind)]) ([p1.xKey, p1.xValue, p1.xLo, p1.xHi]) = q := ⟨_, rfl⟩
 obtain ⟨D173, HP174, ro175, bk176, rr177⟩ := Own.enter1 H172
 refine GX.do 15 rfl (by kernel_rfl) (Do.call Tryz.call56 rfl (wire_texts_ok _ _ A134 (List.length (l0 ++ [(u8I p1.xKind)])) c135 (l0 ++ [(u8I p1.xKind)]) A129 4 4 ([p1.xKey, p1.xValue, p1.xLo, p1.xHi]) r178 HP174 rfl (by first | omega | (simp only [List.length_append, List.length_cons, List.length_nil, List.length_take, List.length_drop, List.length_set]; omega)) (rr177 _ 2 _ rfl row_rds) rfl (by simp) (by first | omega | (simp only [List.length_cons, List.length_nil, List.length_append]; omega)) (by refine ⟨Nat.le_of_ble_eq_true rfl, ?_⟩; simp only [List.mem_cons, List.not_mem_nil, or_false, forall_eq_or_imp, forall_eq]; omega) hr179) ?_)
 rintro _ w180 ⟨A183, c184, rfl, HQ181, hk185⟩
 have H182 := bk176 _ _ HQ181
 have hb186 := H182.rowC (i := 0) rfl
 replace hk185 : r178.length ≤ List.length (l0 ++ [(u8I p1.xKind)]) + 26 * 4 := hk185
 have H187 := H182.pk [1, 0, 2, 3, 4]
 refine ⟨.inr ⟨_, H187⟩, ?_⟩
 have H188 := H187.pk [1, 0, 2, 3, 4]
 refine GX.do 20 rfl (by kernel_rfl) (Do.appendW (k := r178.length) (m := 1) (El31) H188 rfl rfl (src_of Tryz.underlying31 (H188.rds (i := 2) rfl) (flat_one eB_one ([(u8I p1.xMost)]))) rfl (by omega) (s := List.length (r178 ++ [(u8I p1.xMost)])) (by first | omega | (simp only [List.length_append, List.length_cons, List.length_nil] <;> omega)) (List.flatMap_append).symm ?_)
 intro A189 c190 w191 H192
 have hl193 : List.length (r178 ++ [(u8I p1.xMost)]) = r178.length + 1 := by simp only [List.length_append, List.length_cons, List.length_nil]
 have H194 := H192.pk [1, 0, 2, 3, 4]
 refine ⟨.inr ⟨_, H194⟩, ?_⟩
 refine GX.take (v := .slice A189 (List.length (r178 ++ [(u8I p1.xMost)])) c190) (rs := []) 21 rfl (by kernel_rfl) (fun _ _ => Yl.assign rfl) (GX.done (by kernel_rfl) (Fin.then (rt (rs ?_))))
 have H195 := H194.pk [1]
 obtain rfl : _ = (r178 ++ [(u8I p1.xMost)]) := hr.symm.trans (bnd_of hr179)
 exact ⟨A189, c190, rfl, H195, (by first | omega | (simp only [List.length_cons, List.length_nil, List.length_append]; omega))⟩
 refine GY.do 19 rfl (by kernel_rfl) (Do.newRow (cs := [.int .u8 (((u8I p1.xMost).toNat : Nat) : Int)]) (t := 5) (sz := 1) (m := 1) H132 rfl rfl (fun _ => by kernel_rfl) rfl (by decide) ?_)
 intro A196 w197 H198
 replace H198 := Own.reh (y := row A196 1 1 (List.flatMap eB ([(u8I p1.xMost)])) 5 1) rfl H198
 have H199 := H198.pk [1, 0, 2, 3, 4]
 refine ⟨.inr ⟨_, H199⟩, ?_⟩
 have H200 := H199.pk [4, 0, 1, 2, 3]
 refine GX.do 5 rfl (by kernel_rfl) (Do.appendW (k := l0.length) (m := 1) (El31) H200 rfl rfl (src_of Tryz.underlying31 (H200.rds (i := 4) rfl) (flat_one eB_one ([(u8I p1.xKind)]))) rfl (by omega) (s := List.length (l0 ++ [(u8I p1.xKind)])) (by first | omega | (simp only [List.length_append, List.length_cons, List.length_nil] <;> omega)) (List.flatMap_append).symm ?_)
 intro A201 c202 w203 H204
 have hl205 : List.length (l0 ++ [(u8I p1.xKind)]) = l0.length + 1 := by simp only [List.length_append, List.length_cons, List.length_nil]
 have H206 := H204.pk [1, 0, 2, 3, 4]
 refine ⟨.inr ⟨_, H206⟩, ?_⟩
 have H207 := H206.pk [1, 0, 2, 3, 4]
 obtain ⟨r213, hr214⟩ : ∃ q, wire_texts (l0 ++ [(u8I p1.xKind)]) ([p1.xKey, p1.xValue, p1.xLo, p1.xHi]) = q := ⟨_, rfl⟩
 obtain ⟨D208, HP209, ro210, bk211, rr212⟩ := Own.enter1 H207
 refine GX.do 15 rfl (by kernel_rfl) (Do.call Tryz.call56 rfl (wire_texts_ok _ _ A201 (List.length (l0 ++ [(u8I p1.xKind)])) c202 (l0 ++ [(u8I p1.xKind)]) A129 4 4 ([p1.xKey, p1.xValue, p1.xLo, p1.xHi]) r213 HP209 rfl (by first | omega | (simp only [List.length_append, List.length_cons, List.length_nil, List.length_take, List.length_drop, List.length_set]; omega)) (rr212 _ 2 _ rfl row_rds) rfl (by simp) (by first | omega | (simp only [List.length_cons, List.length_nil, List.length_append]; omega)) (by refine ⟨Nat.le_of_ble_eq_true rfl, ?_⟩; simp only [List.mem_cons, List.not_mem_nil, or_false, forall_eq_or_imp, forall_eq]; omega) hr214) ?_)
 rintro _ w215 ⟨A218, c219, rfl, HQ216, hk220⟩
 have H217 := bk211 _ _ HQ216
 have hb221 := H217.rowC (i := 0) rfl
 replace hk220 : r213.length ≤ List.length (l0 ++ [(u8I p1.xKind)]) + 26 * 4 := hk220
 have H222 := H217.pk [1, 0, 2, 3, 4]
 refine ⟨.inr ⟨_, H222⟩, ?_⟩
 have H223 := H222.pk [1, 0, 2, 3, 4]
 refine GX.do 20 rfl (by kernel_rfl) (Do.appendW (k := r213.length) (m := 1) (El31) H223 rfl rfl (src_of Tryz.underlying31 (H223.rds (i := 2) rfl) (flat_one eB_one ([(u8I p1.xMost)]))) rfl (by omega) (s := List.length (r213 ++ [(u8I p1.xMost)])) (by first | omega | (simp only [List.length_append, List.length_cons, List.length_nil] <;> omega)) (List.flatMap_append).symm ?_)
 intro A224 c225 w226 H227
 have hl228 : List.length (r213 ++ [(u8I p1.xMost)]) = r213.length + 1 := by simp only [List.length_append, List.length_cons, List.length_nil]
 have H229 := H227.pk [1, 0, 2, 3, 4]
 refine ⟨.inr ⟨_, H229⟩, ?_⟩
 refine GX.take (v := .slice A224 (List.length (r213 ++ [(u8I p1.xMost)])) c225) (rs := []) 21 rfl (by kernel_rfl) (fun _ _ => Yl.assign rfl) (GX.done (by kernel_rfl) (Fin.then (rt (rs ?_))))
 have H230 := H229.pk [1]
 obtain rfl : _ = (r213 ++ [(u8I p1.xMost)]) := hr.symm.trans (bnd_of hr214)
 exact ⟨A224, c225, rfl, H230, (by first | omega | (simp only [List.length_cons, List.length_nil, List.length_append]; omega))⟩
 refine GY.do 19 rfl (by kernel_rfl) (Do.newRow (cs := [.int .u8 (((u8I p1.xMost).toNat : Nat) : Int)]) (t := 5) (sz := 1) (m := 1) H29 rfl rfl (fun _ => by kernel_rfl) rfl (by decide) ?_)
 intro A231 w232 H233
 replace H233 := Own.reh (y := row A231 1 1 (List.flatMap eB ([(u8I p1.xMost)])) 5 1) rfl H233
 have H234 := H233.pk [1, 0, 2, 3]
 refine ⟨.inr ⟨_, H234⟩, ?_⟩
 refine GX.any2 5 14 (by kernel_rfl) ?_ ?_
 have H235 := H234.pk [3, 0, 1, 2]
 refine GY.do 5 rfl (by kernel_rfl) (Do.appendW (k := l0.length) (m := 1) (El31) H235 rfl rfl (src_of Tryz.underlying31 (H235.rds (i := 3) rfl) (flat_one eB_one ([(u8I p1.xKind)]))) rfl (by omega) (s := List.length (l0 ++ [(u8I p1.xKind)])) (by first | omega | (simp only [List.length_append, List.length_cons, List.length_nil] <;> omega)) (List.flatMap_append).symm ?_)
 intro A236 c237 w238 H239
 have hl240 : List.length (l0 ++ [(u8I p1.xKind)]) = l0.length + 1 := by simp only [List.length_append, List.length_cons, List.length_nil]
 have H241 := H239.pk [1, 0, 2, 3]
 refine ⟨.inr ⟨_, H241⟩, ?_⟩
 refine GX.do 14 rfl (by kernel_rfl) (Do.newRow (cs := [.string ⟨List.toArray p1.xKey⟩, .string ⟨List.toArray p1.xValue⟩, .string ⟨List.toArray p1.xLo⟩, .string ⟨List.toArray p1.xHi⟩]) (t := 9) (sz := 1) (m := 4) H241 rfl rfl (fun _ => by kernel_rfl) rfl (by decide) ?_)
 intro A242 w243 H244
 replace H244 := Own.reh (y := row A242 4 4 (List.flatMap eS ([p1.xKey, p1.xValue, p1.xLo, p1.xHi])) 9 1) rfl H244
 have H245 := H244.pk [1, 0, 2, 3, 4]
 refine ⟨.inr ⟨_, H245⟩, ?_⟩
 have H246 := H245.pk [2, 0, 1, 3, 4]
 obtain ⟨r252, hr253⟩ : ∃ q, wire_texts (l0 ++ [(u8I p1.xKind)]) ([p1.xKey, p1.xValue, p1.xLo, p1.xHi]) = q := ⟨_, rfl⟩
 obtain ⟨D247, HP248, ro249, bk250, rr251⟩ := Own.enter1 H246
 refine GX.do 15 rfl (by kernel_rfl) (Do.call Tryz.call56 rfl (wire_texts_ok _ _ A236 (List.length (l0 ++ [(u8I p1.xKind)])) c237 (l0 ++ [(u8I p1.xKind)]) A242 4 4 ([p1.xKey, p1.xValue, p1.xLo, p1.xHi]) r252 HP248 rfl (by first | omega | (simp only [List.length_append, List.length_cons, List.length_nil, List.length_take, List.length_drop, List.length_set]; omega)) (rr251 _ 1 _ rfl row_rds) rfl (by simp) (by first | omega | (simp only [List.length_cons, List.length_nil, List.length_append]; omega)) (by refine ⟨Nat.le_of_ble_eq_true rfl, ?_⟩; simp only [List.mem_cons, List.not_mem_nil, or_false, forall_eq_or_imp, forall_eq]; omega) hr253) ?_)
 rintro _ w254 ⟨A257, c258, rfl, HQ255, hk259⟩
 have H256 := bk250 _ _ HQ255
 have hb260 := H256.rowC (i := 0) rfl
 replace hk259 : r252.length ≤ List.length (l0 ++ [(u8I p1.xKind)]) + 26 * 4 := hk259
 have H261 := H256.pk [1, 0, 2, 3, 4]
 refine ⟨.inr ⟨_, H261⟩, ?_⟩
 have H262 := H261.pk [1, 0, 2, 3, 4]
 refine GX.do 20 rfl (by kernel_rfl) (Do.appendW (k := r252.length) (m := 1) (El31) H262 rfl rfl (src_of Tryz.underlying31 (H262.rds (i := 3) rfl) (flat_one eB_one ([(u8I p1.xMost)]))) rfl (by omega) (s := List.length (r252 ++ [(u8I p1.xMost)])) (by first | omega | (simp only [List.length_append, List.length_cons, List.length_nil] <;> omega)) (List.flatMap_append).symm ?_)
 intro A263 c264 w265 H266
 have hl267 : List.length (r252 ++ [(u8I p1.xMost)]) = r252.length + 1 := by simp only [List.length_append, List.length_cons, List.length_nil]
 have H268 := H266.pk [1, 0, 2, 3, 4]
 refine ⟨.inr ⟨_, H268⟩, ?_⟩
 refine GX.take (v := .slice A263 (List.length (r252 ++ [(u8I p1.xMost)])) c264) (rs := []) 21 rfl (by kernel_rfl) (fun _ _ => Yl.assign rfl) (GX.done (by kernel_rfl) (Fin.then (rt (rs ?_))))
 have H269 := H268.pk [1]
 obtain rfl : _ = (r252 ++ [(u8I p1.xMost)]) := hr.symm.trans (bnd_of hr253)
 exact ⟨A263, c264, rfl, H269, (by first | omega | (simp only [List.length_cons, List.length_nil, List.length_append]; omega))⟩
 refine GY.do 14 rfl (by kernel_rfl) (Do.newRow (cs := [.string ⟨List.toArray p1.xKey⟩, .string ⟨List.toArray p1.xValue⟩, .string ⟨List.toArray p1.xLo⟩, .string ⟨List.toArray p1.xHi⟩]) (t := 9) (sz := 1) (m := 4) H234 rfl rfl (fun _ => by kernel_rfl) rfl (by decide) ?_)
 intro A270 w271 H272
 replace H272 := Own.reh (y := row A270 4 4 (List.flatMap eS ([p1.xKey, p1.xValue, p1.xLo, p1.xHi])) 9 1) rfl H272
 have H273 := H272.pk [1, 0, 2, 3, 4]
 refine ⟨.inr ⟨_, H273⟩, ?_⟩
 have H274 := H273.pk [4, 0, 1, 2, 3]
 refine GX.do 5 rfl (by kernel_rfl) (Do.appendW (k := l0.length) (m := 1) (El31) H274 rfl rfl (src_of Tryz.underlying31 (H274.rds (i := 4) rfl) (flat_one eB_one ([(u8I p1.xKind)]))) rfl (by omega) (s := List.length (l0 ++ [(u8I p1.xKind)])) (by first | omega | (simp only [List.length_append, List.length_cons, List.length_nil] <;> omega)) (List.flatMap_append).symm ?_)
 intro A275 c276 w277 H278
 have hl279 : List.length (l0 ++ [(u8I p1.xKind)]) = l0.length + 1 := by simp only [List.length_append, List.length_cons, List.length_nil]
 have H280 := H278.pk [1, 0, 2, 3, 4]
 refine ⟨.inr ⟨_, H280⟩, ?_⟩
 have H281 := H280.pk [1, 0, 2, 3, 4]
 obtain ⟨r287, hr288⟩ : ∃ q, wire_texts (l0 ++ [(u8I p1.xKind)]) ([p1.xKey, p1.xValue, p1.xLo, p1.xHi]) = q := ⟨_, rfl⟩
 obtain ⟨D282, HP283, ro284, bk285, rr286⟩ := Own.enter1 H281
 refine GX.do 15 rfl (by kernel_rfl) (Do.call Tryz.call56 rfl (wire_texts_ok _ _ A275 (List.length (l0 ++ [(u8I p1.xKind)])) c276 (l0 ++ [(u8I p1.xKind)]) A270 4 4 ([p1.xKey, p1.xValue, p1.xLo, p1.xHi]) r287 HP283 rfl (by first | omega | (simp only [List.length_append, List.length_cons, List.length_nil, List.length_take, List.length_drop, List.length_set]; omega)) (rr286 _ 1 _ rfl row_rds) rfl (by simp) (by first | omega | (simp only [List.length_cons, List.length_nil, List.length_append]; omega)) (by refine ⟨Nat.le_of_ble_eq_true rfl, ?_⟩; simp only [List.mem_cons, List.not_mem_nil, or_false, forall_eq_or_imp, forall_eq]; omega) hr288) ?_)
 rintro _ w289 ⟨A292, c293, rfl, HQ290, hk294⟩
 have H291 := bk285 _ _ HQ290
 have hb295 := H291.rowC (i := 0) rfl
 replace hk294 : r287.length ≤ List.length (l0 ++ [(u8I p1.xKind)]) + 26 * 4 := hk294
 have H296 := H291.pk [1, 0, 2, 3, 4]
 refine ⟨.inr ⟨_, H296⟩, ?_⟩
 have H297 := H296.pk [1, 0, 2, 3, 4]
 refine GX.do 20 rfl (by kernel_rfl) (Do.appendW (k := r287.length) (m := 1) (El31) H297 rfl rfl (src_of Tryz.underlying31 (H297.rds (i := 3) rfl) (flat_one eB_one ([(u8I p1.xMost)]))) rfl (by omega) (s := List.length (r287 ++ [(u8I p1.xMost)])) (by first | omega | (simp only [List.length_append, List.length_cons, List.length_nil] <;> omega)) (List.flatMap_append).symm ?_)
 intro A298 c299 w300 H301
 have hl302 : List.length (r287 ++ [(u8I p1.xMost)]) = r287.length + 1 := by simp only [List.length_append, List.length_cons, List.length_nil]
 have H303 := H301.pk [1, 0, 2, 3, 4]
 refine ⟨.inr ⟨_, H303⟩, ?_⟩
 refine GX.take (v := .slice A298 (List.length (r287 ++ [(u8I p1.xMost)])) c299) (rs := []) 21 rfl (by kernel_rfl) (fun _ _ => Yl.assign rfl) (GX.done (by kernel_rfl) (Fin.then (rt (rs ?_))))
 have H304 := H303.pk [1]
 obtain rfl : _ = (r287 ++ [(u8I p1.xMost)]) := hr.symm.trans (bnd_of hr288)
 exact ⟨A298, c299, rfl, H304, (by first | omega | (simp only [List.length_cons, List.length_nil, List.length_append]; omega))⟩
 refine GY.do 14 rfl (by kernel_rfl) (Do.newRow (cs := [.string ⟨List.toArray p1.xKey⟩, .string ⟨List.toArray p1.xValue⟩, .string ⟨List.toArray p1.xLo⟩, .string ⟨List.toArray p1.xHi⟩]) (t := 9) (sz := 1) (m := 4) H25 rfl rfl (fun _ => by kernel_rfl) rfl (by decide) ?_)
 intro A305 w306 H307
 replace H307 := Own.reh (y := row A305 4 4 (List.flatMap eS ([p1.xKey, p1.xValue, p1.xLo, p1.xHi])) 9 1) rfl H307
 have H308 := H307.pk [1, 0, 2]
 refine ⟨.inr ⟨_, H308⟩, ?_⟩
 refine GX.any2 4 19 (by kernel_rfl) ?_ ?_
 refine GY.do 4 rfl (by kernel_rfl) (Do.newRow (cs := [.int .u8 (((u8I p1.xKind).toNat : Nat) : Int)]) (t := 5) (sz := 1) (m := 1) H308 rfl rfl (fun _ => by kernel_rfl) rfl (by decide) ?_)
 intro A309 w310 H311
 replace H311 := Own.reh (y := row A309 1 1 (List.flatMap eB ([(u8I p1.xKind)])) 5 1) rfl H311
 have H312 := H311.pk [1, 0, 2, 3]
 refine ⟨.inr ⟨_, H312⟩, ?_⟩
 refine GX.any2 5 19 (by kernel_rfl) ?_ ?_
 have H313 := H312.pk [3, 0, 1, 2]
 refine GY.do 5 rfl (by kernel_rfl) (Do.appendW (k := l0.length) (m := 1) (El31) H313 rfl rfl (src_of Tryz.underlying31 (H313.rds (i := 2) rfl) (flat_one eB_one ([(u8I p1.xKind)]))) rfl (by omega) (s := List.length (l0 ++ [(u8I p1.xKind)])) (by first | omega | (simp only [List.length_append, List.length_cons, List.length_nil] <;> omega)) (List.flatMap_append).symm ?_)
 intro A314 c315 w316 H317
 have hl318 : List.length (l0 ++ [(u8I p1.xKind)]) = l0.length + 1 := by simp only [List.length_append, List.length_cons, List.length_nil]
 have H319 := H317.pk [1, 0, 2, 3]
 refine ⟨.inr ⟨_, H319⟩, ?_⟩
 refine GX.any2 15 19 (by kernel_rfl) ?_ ?_
 have H320 := H319.pk [1, 0, 2, 3]
 obtain ⟨r326, hr327⟩ : ∃ q, wire_texts (l0 ++ [(u8I p1.xKind)]) ([p1.xKey, p1.xValue, p1.xLo, p1.xHi]) = q := ⟨_, rfl⟩
 obtain ⟨D321, HP322, ro323, bk324, rr325⟩ := Own.enter1 H320
 refine GY.do 15 rfl (by kernel_rfl) (Do.call Tryz.call56 rfl (wire_texts_ok _ _ A314 (List.length (l0 ++ [(u8I p1.xKind)])) c315 (l0 ++ [(u8I p1.xKind)]) A305 4 4 ([p1.xKey, p1.xValue, p1.xLo, p1.xHi]) r326 HP322 rfl (by first | omega | (simp only [List.length_append, List.length_cons, List.length_nil, List.length_take, List.length_drop, List.length_set]; omega)) (rr325 _ 2 _ rfl row_rds) rfl (by simp) (by first | omega | (simp only [List.length_cons, List.length_nil, List.length_append]; omega)) (by refine ⟨Nat.le_of_ble_eq_true rfl, ?_⟩; simp only [List.mem_cons, List.not_mem_nil, or_false, forall_eq_or_imp, forall_eq]; omega) hr327) ?_)
 rintro _ w328 ⟨A331, c332, rfl, HQ329, hk333⟩
 have H330 := bk324 _ _ HQ329
 have hb334 := H330.rowC (i := 0) rfl
 replace hk333 : r326.length ≤ List.length (l0 ++ [(u8I p1.xKind)]) + 26 * 4 := hk333
 have H335 := H330.pk [1, 0, 2, 3]
 refine ⟨.inr ⟨_, H335⟩, ?_⟩
 refine GX.do 19 rfl (by kernel_rfl) (Do.newRow (cs := [.int .u8 (((u8I p1.xMost).toNat : Nat) : Int)]) (t := 5) (sz := 1) (m := 1) H335 rfl rfl (fun _ => by kernel_rfl) rfl (by decide) ?_)
 intro A336 w337 H338
 replace H338 := Own.reh (y := row A336 1 1 (List.flatMap eB ([(u8I p1.xMost)])) 5 1) rfl H338
 have H339 := H338.pk [1, 0, 2, 3, 4]
 refine ⟨.inr ⟨_, H339⟩, ?_⟩
 have H340 := H339.pk [2, 0, 1, 3, 4]
 refine GX.do 20 rfl (by kernel_rfl) (Do.appendW (k := r326.length) (m := 1) (El31) H340 rfl rfl (src_of Tryz.underlying31 (H340.rds (i := 2) rfl) (flat_one eB_one ([(u8I p1.xMost)]))) rfl (by omega) (s := List.length (r326 ++ [(u8I p1.xMost)])) (by first | omega | (simp only [List.length_append, List.length_cons, List.length_nil] <;> omega)) (List.flatMap_append).symm ?_)
 intro A341 c342 w343 H344
 have hl345 : List.length (r326 ++ [(u8I p1.xMost)]) = r326.length + 1 := by simp only [List.length_append, List.length_cons, List.length_nil]
 have H346 := H344.pk [1, 0, 2, 3, 4]
 refine ⟨.inr ⟨_, H346⟩, ?_⟩
 refine GX.take (v := .slice A341 (List.length (r326 ++ [(u8I p1.xMost)])) c342) (rs := []) 21 rfl (by kernel_rfl) (fun _ _ => Yl.assign rfl) (GX.done (by kernel_rfl) (Fin.then (rt (rs ?_))))
 have H347 := H346.pk [1]
 obtain rfl : _ = (r326 ++ [(u8I p1.xMost)]) := hr.symm.trans (bnd_of hr327)
 exact ⟨A341, c342, rfl, H347, (by first | omega | (simp only [List.length_cons, List.length_nil, List.length_append]; omega))⟩
 refine GY.do 19 rfl (by kernel_rfl) (Do.newRow (cs := [.int .u8 (((u8I p1.xMost).toNat : Nat) : Int)]) (t := 5) (sz := 1) (m := 1) H319 rfl rfl (fun _ => by kernel_rfl) rfl (by decide) ?_)
 intro A348 w349 H350
 replace H350 := Own.reh (y := row A348 1 1 (List.flatMap eB ([(u8I p1.xMost)])) 5 1) rfl H350
 have H351 := H350.pk [1, 0, 2, 3, 4]
 refine ⟨.inr ⟨_, H351⟩, ?_⟩
 have H352 := H351.pk [2, 0, 1, 3, 4]
 obtain ⟨r358, hr359⟩ : ∃ q, wire_texts (l0 ++ [(u8I p1.xKind)]) ([p1.xKey, p1.xValue, p1.xLo, p1.xHi]) = q := ⟨_, rfl⟩
 obtain ⟨D353, HP354, ro355, bk356, rr357⟩ := Own.enter1 H352
 refine GX.do 15 rfl (by kernel_rfl) (Do.call Tryz.call56 rfl (wire_texts_ok _ _ A314 (List.length (l0 ++ [(u8I p1.xKind)])) c315 (l0 ++ [(u8I p1.xKind)]) A305 4 4 ([p1.xKey, p1.xValue, p1.xLo, p1.xHi]) r358 HP354 rfl (by first | omega | (simp only [List.length_append, List.length_cons, List.length_nil, List.length_take, List.length_drop, List.length_set]; omega)) (rr357 _ 3 _ rfl row_rds) rfl (by simp) (by first | omega | (simp only [List.length_cons, List.length_nil, List.length_append]; omega)) (by refine ⟨Nat.le_of_ble_eq_true rfl, ?_⟩; simp only [List.mem_cons, List.not_mem_nil, or_false, forall_eq_or_imp, forall_eq]; omega) hr359) ?_)
 rintro _ w360 ⟨A363, c364, rfl, HQ361, hk365⟩
 have H362 := bk356 _ _ HQ361
 have hb366 := H362.rowC (i := 0) rfl
 replace hk365 : r358.length ≤ List.length (l0 ++ [(u8I p1.xKind)]) + 26 * 4 := hk365
 have H367 := H362.pk [1, 0, 2, 3, 4]
 refine ⟨.inr ⟨_, H367⟩, ?_⟩
 have H368 := H367.pk [1, 0, 2, 3, 4]
 refine GX.do 20 rfl (by kernel_rfl) (Do.appendW (k := r358.length) (m := 1) (El31) H368 rfl rfl (src_of Tryz.underlying31 (H368.rds (i := 2) rfl) (flat_one eB_one ([(u8I p1.xMost)]))) rfl (by omega) (s := List.length (r358 ++ [(u8I p1.xMost)])) (by first | omega | (simp only [List.length_append, List.length_cons, List.length_nil] <;> omega)) (List.flatMap_append).symm ?_)
 intro A369 c370 w371 H372
 have hl373 : List.length (r358 ++ [(u8I p1.xMost)]) = r358.length + 1 := by simp only [List.length_append, List.length_cons, List.length_nil]
 have H374 := H372.pk [1, 0, 2, 3, 4]
 refine ⟨.inr ⟨_, H374⟩, ?_⟩
 refine GX.take (v := .slice A369 (List.length (r358 ++ [(u8I p1.xMost)])) c370) (rs := []) 21 rfl (by kernel_rfl) (fun _ _ => Yl.assign rfl) (GX.done (by kernel_rfl) (Fin.then (rt (rs ?_))))
 have H375 := H374.pk [1]
 obtain rfl : _ = (r358 ++ [(u8I p1.xMost)]) := hr.symm.trans (bnd_of hr359)
 exact ⟨A369, c370, rfl, H375, (by first | omega | (simp only [List.length_cons, List.length_nil, List.length_append]; omega))⟩
 refine GY.do 19 rfl (by kernel_rfl) (Do.newRow (cs := [.int .u8 (((u8I p1.xMost).toNat : Nat) : Int)]) (t := 5) (sz := 1) (m := 1) H312 rfl rfl (fun _ => by kernel_rfl) rfl (by decide) ?_)
 intro A376 w377 H378
 replace H378 := Own.reh (y := row A376 1 1 (List.flatMap eB ([(u8I p1.xMost)])) 5 1) rfl H378
 have H379 := H378.pk [1, 0, 2, 3, 4]
 refine ⟨.inr ⟨_, H379⟩, ?_⟩
 have H380 := H379.pk [4, 0, 1, 2, 3]
 refine GX.do 5 rfl (by kernel_rfl) (Do.appendW (k := l0.length) (m := 1) (El31) H380 rfl rfl (src_of Tryz.underlying31 (H380.rds (i := 3) rfl) (flat_one eB_one ([(u8I p1.xKind)]))) rfl (by omega) (s := List.length (l0 ++ [(u8I p1.xKind)])) (by first | omega | (simp only [List.length_append, List.length_cons, List.length_nil] <;> omega)) (List.flatMap_append).symm ?_)
 intro A381 c382 w383 H384
 have hl385 : List.length (l0 ++ [(u8I p1.xKind)]) = l0.length + 1 := by simp only [List.length_append, List.length_cons, List.length_nil]
 have H386 := H384.pk [1, 0, 2, 3, 4]
 refine ⟨.inr ⟨_, H386⟩, ?_⟩
 have H387 := H386.pk [1, 0, 2, 3, 4]
 obtain ⟨r393, hr394⟩ : ∃ q, wire_texts (l0 ++ [(u8I p1.xKind)]) ([p1.xKey, p1.xValue, p1.xLo, p1.xHi]) = q := ⟨_, rfl⟩
 obtain ⟨D388, HP389, ro390, bk391, rr392⟩ := Own.enter1 H387
 refine GX.do 15 rfl (by kernel_rfl) (Do.call Tryz.call56 rfl (wire_texts_ok _ _ A381 (List.length (l0 ++ [(u8I p1.xKind)])) c382 (l0 ++ [(u8I p1.xKind)]) A305 4 4 ([p1.xKey, p1.xValue, p1.xLo, p1.xHi]) r393 HP389 rfl (by first | omega | (simp only [List.length_append, List.length_cons, List.length_nil, List.length_take, List.length_drop, List.length_set]; omega)) (rr392 _ 3 _ rfl row_rds) rfl (by simp) (by first | omega | (simp only [List.length_cons, List.length_nil, List.length_append]; omega)) (by refine ⟨Nat.le_of_ble_eq_true rfl, ?_⟩; simp only [List.mem_cons, List.not_mem_nil, or_false, forall_eq_or_imp, forall_eq]; omega) hr394) ?_)
 rintro _ w395 ⟨A398, c399, rfl, HQ396, hk400⟩
 have H397 := bk391 _ _ HQ396
 have hb401 := H397.rowC (i := 0) rfl
 replace hk400 : r393.length ≤ List.length (l0 ++ [(u8I p1.xKind)]) + 26 * 4 := hk400
 have H402 := H397.pk [1, 0, 2, 3, 4]
 refine ⟨.inr ⟨_, H402⟩, ?_⟩
 have H403 := H402.pk [1, 0, 2, 3, 4]
 refine GX.do 20 rfl (by kernel_rfl) (Do.appendW (k := r393.length) (m := 1) (El31) H403 rfl rfl (src_of Tryz.underlying31 (H403.rds (i := 2) rfl) (flat_one eB_one ([(u8I p1.xMost)]))) rfl (by omega) (s := List.length (r393 ++ [(u8I p1.xMost)])) (by first | omega | (simp only [List.length_append, List.length_cons, List.length_nil] <;> omega)) (List.flatMap_append).symm ?_)
 intro A404 c405 w406 H407
 have hl408 : List.length (r393 ++ [(u8I p1.xMost)]) = r393.length + 1 := by simp only [List.length_append, List.length_cons, List.length_nil]
 have H409 := H407.pk [1, 0, 2, 3, 4]
 refine ⟨.inr ⟨_, H409⟩, ?_⟩
 refine GX.take (v := .slice A404 (List.length (r393 ++ [(u8I p1.xMost)])) c405) (rs := []) 21 rfl (by kernel_rfl) (fun _ _ => Yl.assign rfl) (GX.done (by kernel_rfl) (Fin.then (rt (rs ?_))))
 have H410 := H409.pk [1]
 obtain rfl : _ = (r393 ++ [(u8I p1.xMost)]) := hr.symm.trans (bnd_of hr394)
 exact ⟨A404, c405, rfl, H410, (by first | omega | (simp only [List.length_cons, List.length_nil, List.length_append]; omega))⟩
 refine GY.do 19 rfl (by kernel_rfl) (Do.newRow (cs := [.int .u8 (((u8I p1.xMost).toNat : Nat) : Int)]) (t := 5) (sz := 1) (m := 1) H308 rfl rfl (fun _ => by kernel_rfl) rfl (by decide) ?_)
 intro A411 w412 H413
 replace H413 := Own.reh (y := row A411 1 1 (List.flatMap eB ([(u8I p1.xMost)])) 5 1) rfl H413
 have H414 := H413.pk [1, 0, 2, 3]
 refine ⟨.inr ⟨_, H414⟩, ?_⟩
 refine GX.do 4 rfl (by kernel_rfl) (Do.newRow (cs := [.int .u8 (((u8I p1.xKind).toNat : Nat) : Int)]) (t := 5) (sz := 1) (m := 1) H414 rfl rfl (fun _ => by kernel_rfl) rfl (by decide) ?_)
 intro A415 w416 H417
 replace H417 := Own.reh (y := row A415 1 1 (List.flatMap eB ([(u8I p1.xKind)])) 5 1) rfl H417
 have H418 := H417.pk [1, 0, 2, 3, 4]
 refine ⟨.inr ⟨_, H418⟩, ?_⟩
 have H419 := H418.pk [4, 0, 1, 2, 3]
 refine GX.do 5 rfl (by kernel_rfl) (Do.appendW (k := l0.length) (m := 1) (El31) H419 rfl rfl (src_of Tryz.underlying31 (H419.rds (i := 2) rfl) (flat_one eB_one ([(u8I p1.xKind)]))) rfl (by omega) (s := List.length (l0 ++ [(u8I p1.xKind)])) (by first | omega | (simp only [List.length_append, List.length_cons, List.length_nil] <;> omega)) (List.flatMap_append).symm ?_)
 intro A420 c421 w422 H423
 have hl424 : List.length (l0 ++ [(u8I p1.xKind)]) = l0.length + 1 := by simp only [List.length_append, List.length_cons, List.length_nil]
 have H425 := H423.pk [1, 0, 2, 3, 4]
 refine ⟨.inr ⟨_, H425⟩, ?_⟩
 have H426 := H425.pk [1, 0, 2, 3, 4]
 obtain ⟨r432, hr433⟩ : ∃ q, wire_texts (l0 ++ [(u8I p1.xKind)]) ([p1.xKey, p1.xValue, p1.xLo, p1.xHi]) = q := ⟨_, rfl⟩
 obtain ⟨D427, HP428, ro429, bk430, rr431⟩ := Own.enter1 H426
 refine GX.do 15 rfl (by kernel_rfl) (Do.call Tryz.call56 rfl (wire_texts_ok _ _ A420 (List.length (l0 ++ [(u8I p1.xKind)])) c421 (l0 ++ [(u8I p1.xKind)]) A305 4 4 ([p1.xKey, p1.xValue, p1.xLo, p1.xHi]) r432 HP428 rfl (by first | omega | (simp only [List.length_append, List.length_cons, List.length_nil, List.length_take, List.length_drop, List.length_set]; omega)) (rr431 _ 3 _ rfl row_rds) rfl (by simp) (by first | omega | (simp only [List.length_cons, List.length_nil, List.length_append]; omega)) (by refine ⟨Nat.le_of_ble_eq_true rfl, ?_⟩; simp only [List.mem_cons, List.not_mem_nil, or_false, forall_eq_or_imp, forall_eq]; omega) hr433) ?_)
 rintro _ w434 ⟨A437, c438, rfl, HQ435, hk439⟩
 have H436 := bk430 _ _ HQ435
 have hb440 := H436.rowC (i := 0) rfl
 replace hk439 : r432.length ≤ List.length (l0 ++ [(u8I p1.xKind)]) + 26 * 4 := hk439
 have H441 := H436.pk [1, 0, 2, 3, 4]
 refine ⟨.inr ⟨_, H441⟩, ?_⟩
 have H442 := H441.pk [1, 0, 2, 3, 4]
 refine GX.do 20 rfl (by kernel_rfl) (Do.appendW (k := r432.length) (m := 1) (El31) H442 rfl rfl (src_of Tryz.underlying31 (H442.rds (i := 3) rfl) (flat_one eB_one ([(u8I p1.xMost)]))) rfl (by omega) (s := List.length (r432 ++ [(u8I p1.xMost)])) (by first | omega | (simp only [List.length_append, List.length_cons, List.length_nil] <;> omega)) (List.flatMap_append).symm ?_)
 intro A443 c444 w445 H446
 have hl447 : List.length (r432 ++ [(u8I p1.xMost)]) = r432.length + 1 := by simp only [List.length_append, List.length_cons, List.length_nil]
 have H448 := H446.pk [1, 0, 2, 3, 4]
 refine ⟨.inr ⟨_, H448⟩, ?_⟩
 refine GX.take (v := .slice A443 (List.length (r432 ++ [(u8I p1.xMost)])) c444) (rs := []) 21 rfl (by kernel_rfl) (fun _ _ => Yl.assign rfl) (GX.done (by kernel_rfl) (Fin.then (rt (rs ?_))))
 have H449 := H448.pk [1]
 obtain rfl : _ = (r432 ++ [(u8I p1.xMost)]) := hr.symm.trans (bnd_of hr433)
 exact ⟨A443, c444, rfl, H449, (by first | omega | (simp only [List.length_cons, List.length_nil, List.length_append]; omega))⟩
 refine GY.do 19 rfl (by kernel_rfl) (Do.newRow (cs := [.int .u8 (((u8I p1.xMost).toNat : Nat) : Int)]) (t := 5) (sz := 1) (m := 1) H25 rfl rfl (fun _ => by kernel_rfl) rfl (by decide) ?_)
 intro A450 w451 H452
 replace H452 := Own.reh (y := row A450 1 1 (List.flatMap eB ([(u8I p1.xMost)])) 5 1) rfl H452
 have H453 := H452.pk [1, 0, 2]
 refine ⟨.inr ⟨_, H453⟩, ?_⟩
 refine GX.any2 4 14 (by kernel_rfl) ?_ ?_
 refine GY.do 4 rfl (by kernel_rfl) (Do.newRow (cs := [.int .u8 (((u8I p1.xKind).toNat : Nat) : Int)]) (t := 5) (sz := 1) (m := 1) H453 rfl rfl (fun _ => by kernel_rfl) rfl (by decide) ?_)
 intro A454 w455 H456
 replace H456 := Own.reh (y := row A454 1 1 (List.flatMap eB ([(u8I p1.xKind)])) 5 1) rfl H456
 have H457 := H456.pk [1, 0, 2, 3]
 refine ⟨.inr ⟨_, H457⟩, ?_⟩
 refine GX.any2 5 14 (by kernel_rfl) ?_ ?_
 have H458 := H457.pk [3, 0, 1, 2]
 refine GY.do 5 rfl (by kernel_rfl) (Do.appendW (k := l0.length) (m := 1) (El31) H458 rfl rfl (src_of Tryz.underlying31 (H458.rds (i := 2) rfl) (flat_one eB_one ([(u8I p1.xKind)]))) rfl (by omega) (s := List.length (l0 ++ [(u8I p1.xKind)])) (by first | omega | (simp only [List.length_append, List.length_cons, List.length_nil] <;> omega)) (List.flatMap_append).symm ?_)
 intro A459 c460 w461 H462
 have hl463 : List.length (l0 ++ [(u8I p1.xKind)]) = l0.length + 1 := by simp only [List.length_append, List.length_cons, List.length_nil]
 have H464 := H462.pk [1, 0, 2, 3]
 refine ⟨.inr ⟨_, H464⟩, ?_⟩
 refine GX.do 14 rfl (by kernel_rfl) (Do.newRow (cs := [.string ⟨List.toArray p1.xKey⟩, .string ⟨List.toArray p1.xValue⟩, .string ⟨List.toArray p1.xLo⟩, .string ⟨List.toArray p1.xHi⟩]) (t := 9) (sz := 1) (m := 4) H464 rfl rfl (fun _ => by kernel_rfl) rfl (by decide) ?_)
 intro A465 w466 H467
 replace H467 := Own.reh (y := row A465 4 4 (List.flatMap eS ([p1.xKey, p1.xValue, p1.xLo, p1.xHi])) 9 1) rfl H467
 have H468 := H467.pk [1, 0, 2, 3, 4]
 refine ⟨.inr ⟨_, H468⟩, ?_⟩
 have H469 := H468.pk [2, 0, 1, 3, 4]
 obtain ⟨r475, hr476⟩ : ∃ q, wire_texts (l0 ++ [(u8I p1.xKind)]) ([p1.xKey, p1.xValue, p1.xLo, p1.xHi]) = q := ⟨_, rfl⟩
 obtain ⟨D470, HP471, ro472, bk473, rr474⟩ := Own.enter1 H469
 refine GX.do 15 rfl (by kernel_rfl) (Do.call Tryz.call56 rfl (wire_texts_ok _ _ A459 (List.length (l0 ++ [(u8I p1.xKind)])) c460 (l0 ++ [(u8I p1.xKind)]) A465 4 4 ([p1.xKey, p1.xValue, p1.xLo, p1.xHi]) r475 HP471 rfl (by first | omega | (simp only [List.length_append, List.length_cons, List.length_nil, List.length_take, List.length_drop, List.length_set]; omega)) (rr474 _ 1 _ rfl row_rds) rfl (by simp) (by first | omega | (simp only [List.length_cons, List.length_nil, List.length_append]; omega)) (by refine ⟨Nat.le_of_ble_eq_true rfl, ?_⟩; simp only [List.mem_cons, List.not_mem_nil, or_false, forall_eq_or_imp, forall_eq]; omega) hr476) ?_)
 rintro _ w477 ⟨A480, c481, rfl, HQ478, hk482⟩
 have H479 := bk473 _ _ HQ478
 have hb483 := H479.rowC (i := 0) rfl
 replace hk482 : r475.length ≤ List.length (l0 ++ [(u8I p1.xKind)]) + 26 * 4 := hk482
 have H484 := H479.pk [1, 0, 2, 3, 4]
 refine ⟨.inr ⟨_, H484⟩, ?_⟩
 have H485 := H484.pk [1, 0, 2, 3, 4]
 refine GX.do 20 rfl (by kernel_rfl) (Do.appendW (k := r475.length) (m := 1) (El31) H485 rfl rfl (src_of Tryz.underlying31 (H485.rds (i := 4) rfl) (flat_one eB_one ([(u8I p1.xMost)]))) rfl (by omega) (s := List.length (r475 ++ [(u8I p1.xMost)])) (by first | omega | (simp only [List.length_append, List.length_cons, List.length_nil] <;> omega)) (List.flatMap_append).symm ?_)
 intro A486 c487 w488 H489
 have hl490 : List.length (r475 ++ [(u8I p1.xMost)]) = r475.length + 1 := by simp only [List.length_append, List.length_cons, List.length_nil]
 have H491 := H489.pk [1, 0, 2, 3, 4]
 refine ⟨.inr ⟨_, H491⟩, ?_⟩
 refine GX.take (v := .slice A486 (List.length (r475 ++ [(u8I p1.xMost)])) c487) (rs := []) 21 rfl (by kernel_rfl) (fun _ _ => Yl.assign rfl) (GX.done (by kernel_rfl) (Fin.then (rt (rs ?_))))
 have H492 := H491.pk [1]
 obtain rfl : _ = (r475 ++ [(u8I p1.xMost)]) := hr.symm.trans (bnd_of hr476)
 exact ⟨A486, c487, rfl, H492, (by first | omega | (simp only [List.length_cons, List.length_nil, List.length_append]; omega))⟩
 refine GY.do 14 rfl (by kernel_rfl) (Do.newRow (cs := [.string ⟨List.toArray p1.xKey⟩, .string ⟨List.toArray p1.xValue⟩, .string ⟨List.toArray p1.xLo⟩, .string ⟨List.toArray p1.xHi⟩]) (t := 9) (sz := 1) (m := 4) H457 rfl rfl (fun _ => by kernel_rfl) rfl (by decide) ?_)
 intro A493 w494 H495
 replace H495 := Own.reh (y := row A493 4 4 (List.flatMap eS ([p1.xKey, p1.xValue, p1.xLo, p1.xHi])) 9 1) rfl H495
 have H496 := H495.pk [1, 0, 2, 3, 4]
 refine ⟨.inr ⟨_, H496⟩, ?_⟩
 have H497 := H496.pk [4, 0, 1, 2, 3]
 refine GX.do 5 rfl (by kernel_rfl) (Do.appendW (k := l0.length) (m := 1) (El31) H497 rfl rfl (src_of Tryz.underlying31 (H497.rds (i := 3) rfl) (flat_one eB_one ([(u8I p1.xKind)]))) rfl (by omega) (s := List.length (l0 ++ [(u8I p1.xKind)])) (by first | omega | (simp only [List.length_append, List.length_cons, List.length_nil] <;> omega)) (List.flatMap_append).symm ?_)
 intro A498 c499 w500 H501
 have hl502 : List.length (l0 ++ [(u8I p1.xKind)]) = l0.length + 1 := by simp only [List.length_append, List.length_cons, List.length_nil]
 have H503 := H501.pk [1, 0, 2, 3, 4]
 refine ⟨.inr ⟨_, H503⟩, ?_⟩
 have H504 := H503.pk [1, 0, 2, 3, 4]
 obtain ⟨r510, hr511⟩ : ∃ q, wire_texts (l0 ++ [(u8I p1.xKind)]) ([p1.xKey, p1.xValue, p1.xLo, p1.xHi]) = q := ⟨_, rfl⟩
 obtain ⟨D505, HP506, ro507, bk508, rr509⟩ := Own.enter1 H504
 refine GX.do 15 rfl (by kernel_rfl) (Do.call Tryz.call56 rfl (wire_texts_ok _ _ A498 (List.length (l0 ++ [(u8I p1.xKind)])) c499 (l0 ++ [(u8I p1.xKind)]) A493 4 4 ([p1.xKey, p1.xValue, p1.xLo, p1.xHi]) r510 HP506 rfl (by first | omega | (simp only [List.length_append, List.length_cons, List.length_nil, List.length_take, List.length_drop, List.length_set]; omega)) (rr509 _ 1 _ rfl row_rds) rfl (by simp) (by first | omega | (simp only [List.length_cons, List.length_nil, List.length_append]; omega)) (by refine ⟨Nat.le_of_ble_eq_true rfl, ?_⟩; simp only [List.mem_cons, List.not_mem_nil, or_false, forall_eq_or_imp, forall_eq]; omega) hr511) ?_)
 rintro _ w512 ⟨A515, c516, rfl, HQ513, hk517⟩
 have H514 := bk508 _ _ HQ513
 have hb518 := H514.rowC (i := 0) rfl
 replace hk517 : r510.length ≤ List.length (l0 ++ [(u8I p1.xKind)]) + 26 * 4 := hk517
 have H519 := H514.pk [1, 0, 2, 3, 4]
 refine ⟨.inr ⟨_, H519⟩, ?_⟩
 have H520 := H519.pk [1, 0, 2, 3, 4]
 refine GX.do 20 rfl (by kernel_rfl) (Do.appendW (k := r510.length) (m := 1) (El31) H520 rfl rfl (src_of Tryz.underlying31 (H520.rds (i := 4) rfl) (flat_one eB_one ([(u8I p1.xMost)]))) rfl (by omega) (s := List.length (r510 ++ [(u8I p1.xMost)])) (by first | omega | (simp only [List.length_append, List.length_cons, List.length_nil] <;> omega)) (List.flatMap_append).symm ?_)
 intro A521 c522 w523 H524
 have hl525 : List.length (r510 ++ [(u8I p1.xMost)]) = r510.length + 1 := by simp only [List.length_append, List.length_cons, List.length_nil]
 have H526 := H524.pk [1, 0, 2, 3, 4]
 refine ⟨.inr ⟨_, H526⟩, ?_⟩
 refine GX.take (v := .slice A521 (List.length (r510 ++ [(u8I p1.xMost)])) c522) (rs := []) 21 rfl (by kernel_rfl) (fun _ _ => Yl.assign rfl) (GX.done (by kernel_rfl) (Fin.then (rt (rs ?_))))
 have H527 := H526.pk [1]
 obtain rfl : _ = (r510 ++ [(u8I p1.xMost)]) := hr.symm.trans (bnd_of hr511)
 exact ⟨A521, c522, rfl, H527, (by first | omega | (simp only [List.length_cons, List.length_nil, List.length_append]; omega))⟩
 refine GY.do 14 rfl (by kernel_rfl) (Do.newRow (cs := [.string ⟨List.toArray p1.xKey⟩, .string ⟨List.toArray p1.xValue⟩, .string ⟨List.toArray p1.xLo⟩, .string ⟨List.toArray p1.xHi⟩]) (t := 9) (sz := 1) (m := 4) H453 rfl rfl (fun _ => by kernel_rfl) rfl (by decide) ?_)
 intro A528 w529 H530
 replace H530 := Own.reh (y := row A528 4 4 (List.flatMap eS ([p1.xKey, p1.xValue, p1.xLo, p1.xHi])) 9 1) rfl H530
 have H531 := H530.pk [1, 0, 2, 3]
 refine ⟨.inr ⟨_, H531⟩, ?_⟩
 refine GX.do 4 rfl (by kernel_rfl) (Do.newRow (cs := [.int .u8 (((u8I p1.xKind).toNat : Nat) : Int)]) (t := 5) (sz := 1) (m := 1) H531 rfl rfl (fun _ => by kernel_rfl) rfl (by decide) ?_)
 intro A532 w533 H534
 replace H534 := Own.reh (y := row A532 1 1 (List.flatMap eB ([(u8I p1.xKind)])) 5 1) rfl H534
 have H535 := H534.pk [1, 0, 2, 3, 4]
 refine ⟨.inr ⟨_, H535⟩, ?_⟩
 have H536 := H535.pk [4, 0, 1, 2, 3]
 refine GX.do 5 rfl (by kernel_rfl) (Do.appendW (k := l0.length) (m := 1) (El31) H536 rfl rfl (src_of Tryz.underlying31 (H536.rds (i := 2) rfl) (flat_one eB_one ([(u8I p1.xKind)]))) rfl (by omega) (s := List.length (l0 ++ [(u8I p1.xKind)])) (by first | omega | (simp only [List.length_append, List.length_cons, List.length_nil] <;> omega)) (List.flatMap_append).symm ?_)
 intro A537 c538 w539 H540
 have hl541 : List.length (l0 ++ [(u8I p1.xKind)]) = l0.length + 1 := by simp only [List.length_append, List.length_cons, List.length_nil]
 have H542 := H540.pk [1, 0, 2, 3, 4]
 refine ⟨.inr ⟨_, H542⟩, ?_⟩
 have H543 := H542.pk [1, 0, 2, 3, 4]
 obtain ⟨r549, hr550⟩ : ∃ q, wire_texts (l0 ++ [(u8I p1.xKind)]) ([p1.xKey, p1.xValue, p1.xLo, p1.xHi]) = q := ⟨_, rfl⟩
 obtain ⟨D544, HP545, ro546, bk547, rr548⟩ := Own.enter1 H543
 refine GX.do 15 rfl (by kernel_rfl) (Do.call Tryz.call56 rfl (wire_texts_ok _ _ A537 (List.length (l0 ++ [(u8I p1.xKind)])) c538 (l0 ++ [(u8I p1.xKind)]) A528 4 4 ([p1.xKey, p1.xValue, p1.xLo, p1.xHi]) r549 HP545 rfl (by first | omega | (simp only [List.length_append, List.length_cons, List.length_nil, List.length_take, List.length_drop, List.length_set]; omega)) (rr548 _ 2 _ rfl row_rds) rfl (by simp) (by first | omega | (simp only [List.length_cons, List.length_nil, List.length_append]; omega)) (by refine ⟨Nat.le_of_ble_eq_true rfl, ?_⟩; simp only [List.mem_cons, List.not_mem_nil, or_false, forall_eq_or_imp, forall_eq]; omega) hr550) ?_)
 rintro _ w551 ⟨A554, c555, rfl, HQ552, hk556⟩
 have H553 := bk547 _ _ HQ552
 have hb557 := H553.rowC (i := 0) rfl
 replace hk556 : r549.length ≤ List.length (l0 ++ [(u8I p1.xKind)]) + 26 * 4 := hk556
 have H558 := H553.pk [1, 0, 2, 3, 4]
 refine ⟨.inr ⟨_, H558⟩, ?_⟩
 have H559 := H558.pk [1, 0, 2, 3, 4]
 refine GX.do 20 rfl (by kernel_rfl) (Do.appendW (k := r549.length) (m := 1) (El31) H559 rfl rfl (src_of Tryz.underlying31 (H559.rds (i := 4) rfl) (flat_one eB_one ([(u8I p1.xMost)]))) rfl (by omega) (s := List.length (r549 ++ [(u8I p1.xMost)])) (by first | omega | (simp only [List.length_append, List.length_cons, List.length_nil] <;> omega)) (List.flatMap_append).symm ?_)
 intro A560 c561 w562 H563
 have hl564 : List.length (r549 ++ [(u8I p1.xMost)]) = r549.length + 1 := by simp only [List.length_append, List.length_cons, List.length_nil]
 have H565 := H563.pk [1, 0, 2, 3, 4]
 refine ⟨.inr ⟨_, H565⟩, ?_⟩
 refine GX.take (v := .slice A560 (List.length (r549 ++ [(u8I p1.xMost)])) c561) (rs := []) 21 rfl (by kernel_rfl) (fun _ _ => Yl.assign rfl) (GX.done (by kernel_rfl) (Fin.then (rt (rs ?_))))
 have H566 := H565.pk [1]
 obtain rfl : _ = (r549 ++ [(u8I p1.xMost)]) := hr.symm.trans (bnd_of hr550)
 exact ⟨A560, c561, rfl, H566, (by first | omega | (simp only [List.length_cons, List.length_nil, List.length_append]; omega))⟩
def wire_list_api_Op_L0 : List OpD → List UInt8 → (List UInt8)
  | [], l45 => l45
  | x59 :: q47, l45 => bnd (wire_writeOp l45 x59) fun yr74 => wire_list_api_Op_L0 q47 yr74
def wire_list_api_Op (l0 : List UInt8) (l1 : List OpD) : (List UInt8) :=
 bnd (octet_Num l1.length) fun yr26 => bnd (wire_list_api_Op_L0 l1 (l0 ++ yr26)) fun sLrbL => sLrbL
set_option maxRecDepth 100000 in
theorem wire_list_api_Op_ok (w : World) (D : Nat → Prop) (A0 : Option Addr) (n0 c0 : Nat) (l0 : List UInt8) (A1 : Option Addr) (n1 c1 : Nat) (l1 : List OpD) (r0 : List UInt8) (H : Own w D w [row A0 n0 c0 (List.flatMap eB l0) 5 1]) (hn0 : n0 = l0.length) (hl0 : l0.length * 1 ≤ 211106232532992) (hx1 : Ro w D fun w' => Rds w' 6 A1 n1 (List.flatMap OpD.cells l1)) (hn1 : n1 = l1.length) (hl1 : l1.length * 80 ≤ 211106232532992) (hh0 : l0.length ≤ 1000000000) (hh1 : (l1.length ≤ 24 ∧ ∀ x ∈ l1, x.xKey.length ≤ 12 ∧ x.xValue.length ≤ 16 ∧ x.xLo.length ≤ 12 ∧ x.xHi.length ≤ 12)) (hr : wire_list_api_Op l0 l1 = r0) :
    Calls Tryz.prog 57 #[.slice A0 n0 c0, .slice A1 n1 c1, .func (.func 58) #[] #[]] w (Ret fun v w' => ∃ (B0 : Option Addr) (b0 : Nat), v = .slice B0 r0.length b0 ∧ Own w D w' [row B0 r0.length b0 (List.flatMap eB r0) 5 1] ∧ (r0.length ≤ l0.length + 10 + 106 * l1.length)) := by
 subst hn0 hn1
 have hc0 := H.rowC (i := 0) rfl
 have hh1a := hh1.1
 refine Calls.body (args := [.slice A0 l0.length c0, .slice A1 l1.length c1, .func (.func 58) #[] #[]]) Tryz.func57 rfl rfl rfl ?_
 show Wp _ _ _ [(0, .slice A0 l0.length c0), (1, .slice A1 l1.length c1), (2, .func (.func 58) #[] #[])] _ _
 refine sr (Ar rfl (Mz rfl (Mz rfl (Kz (.int .i64 ((l1.length : Nat) : Int)) (fw (.int .u64 ((l1.length : Nat) : Int)) (Yl.int (e := IntKind.u64.wrap ((l1.length : Nat) : Int)) yk (IntWalk.u64_in _ (by omega))) ?_)))))
 obtain ⟨r26, hr27⟩ : ∃ q, octet_Num l1.length = q := ⟨_, rfl⟩
 obtain ⟨D21, HP22, ro23, bk24, rr25⟩ := Own.enter0 H
 refine cl Tryz.call51 (octet_Num_ok _ _ l1.length r26 HP22 (by omega) hr27) ?_
 rintro _ w28 ⟨A31, c32, rfl, HQ29, hk33, hk34⟩
 have H30 := bk24 _ _ HQ29
 have hb35 := H30.rowC (i := 0) rfl
 replace hk33 : 1 ≤ r26.length ∧ r26.length ≤ 10 := hk33
 replace hk34 : l1.length ≥ 128 ∨ r26.length = 1 := hk34
 have H36 := H30.pk [1, 0]
 refine WL.do rfl (Do.appendW (k := l0.length) (m := r26.length) (El31) H36 rfl rfl (src_of Tryz.underlying31 (H36.rds (i := 1) rfl) (flat_one eB_one r26)) rfl (by omega) (s := List.length (l0 ++ r26)) (by first | omega | (simp only [List.length_append, List.length_cons, List.length_nil] <;> omega)) (List.flatMap_append).symm ?_)
 intro A37 c38 w39 H40
 have hl41 : List.length (l0 ++ r26) = l0.length + r26.length := by simp only [List.length_append, List.length_cons, List.length_nil]
 refine An rfl (Wp.seq (Wp.seq ?_))
 have H42 := H40.pk [0]
 refine Wp.region (Mz rfl (Kz (.int .i64 ((l1.length : Nat) : Int)) (Mn rfl (bo ?_))))
 have H48 := H42.pk [0]
 obtain ⟨I52, hI53⟩ : ∃ q : ((Option Addr) × Nat × (List UInt8) × Nat) → World → Prop, q = fun (i : (Option Addr) × Nat × (List UInt8) × Nat) w' => Own w D w' [row i.1 i.2.2.1.length i.2.1 (List.flatMap eB i.2.2.1) 5 1] ∧ (i.2.2.2 ≤ l1.length ∧ ((i.2.2.1.length : Nat) : Int) ≤ ((l0.length : Nat) : Int) + 10 + 106 * ((i.2.2.2 : Nat) : Int) ∧ wire_list_api_Op_L0 l1 (l0 ++ r26) = wire_list_api_Op_L0 (List.drop i.2.2.2 l1) i.2.2.1) := ⟨_, rfl⟩
 have dm54 : ∀ {A43 : Option Addr} {c44 : Nat} {l45 : List UInt8} {k46 : Nat} {w' : World}, I52 (A43, c44, l45, k46) w' ↔ Own w D w' [row A43 l45.length c44 (List.flatMap eB l45) 5 1] ∧ k46 ≤ l1.length ∧ ((l45.length : Nat) : Int) ≤ ((l0.length : Nat) : Int) + 10 + 106 * ((k46 : Nat) : Int) ∧ wire_list_api_Op_L0 l1 (l0 ++ r26) = wire_list_api_Op_L0 (List.drop k46 l1) l45 := by intros; subst hI53; exact Iff.rfl
 refine Wp.loop (fun i : (Option Addr) × Nat × (List UInt8) × Nat => [(0, .slice i.1 i.2.2.1.length i.2.1), (17, .int .i64 ((i.2.2.2 : Nat) : Int)), (16, .int .i64 ((l1.length : Nat) : Int)), (15, .slice A1 l1.length c1), (6, .slice none 0 0), (2, .func (.func 58) #[] #[])]) I52 (fun i => l1.length - i.2.2.2) (A37, c38, (l0 ++ r26), 0) ⟨rfl, rfl, rfl, rfl, rfl, rfl, trivial⟩ (dm54.2 ⟨H48, by omega, by omega, rfl⟩) ?_
 rintro ⟨A43, c44, l45, k46⟩ w49 hf51
 show Wp _ _ _ [(0, .slice A43 l45.length c44), (17, .int .i64 ((k46 : Nat) : Int)), (16, .int .i64 ((l1.length : Nat) : Int)), (15, .slice A1 l1.length c1), (6, .slice none 0 0), (2, .func (.func 58) #[] #[])] _ _
 obtain ⟨H50, hi56, hi57, hq55⟩ := dm54.1 hf51
 refine sr (Kz (.bool (decide (((k46 : Nat) : Int) < ((l1.length : Nat) : Int)))) (nt (Wp.seq ?_)))
 by_cases h58 : ((k46 : Nat) : Int) < ((l1.length : Nat) : Int)
 obtain ⟨x59, hx60⟩ := rds_at (ls := l1) (i := k46) OpD.len (by decide) (H50.ro hx1) (by first | omega | (simp; done) | (simp; omega))
 have hz61 : x59.xKey.length ≤ 12 ∧ x59.xValue.length ≤ 16 ∧ x59.xLo.length ≤ 12 ∧ x59.xHi.length ≤ 12 := hh1.2 _ (List.mem_of_getElem? hx60)
 have hd62 := drop_at hx60
 refine jT (dT h58) (sk (Wp.seq (bo (sr (fw (.pointer (some ⟨ab A1, ao A1 + k46 * 6, none⟩)) (Yl.indexAddr (El25) rfl rfl ((H50.ro hx1).addr (i := k46) (by omega)) (by omega)) (fw (.agg (OpD.cells x59).toArray) (Yl.load rfl (Lds.agg (cs := (OpD.cells x59)) Tryz.isAgg64 Tryz.sizeOf64 ((H50.ro hx1).elem OpD.len hx60 (by decide)))) ?_))))))
 refine npw [.int .i64 0, .string ⟨List.toArray ([])⟩, .string ⟨List.toArray ([])⟩, .string ⟨List.toArray ([])⟩, .string ⟨List.toArray ([])⟩, .int .i64 0] 64 H50 ?_
 intro g63 w64 H65
 refine sto (OpD.cells x59) 0 H65 Tryz.sizeOf64 ?_
 intro w66 H67
 refine nt (Wp.region (Mz rfl (Mz rfl (La (OpD.cells x59) H67 0 Tryz.isAgg64 Tryz.sizeOf64 ?_))))
 have H68 := H67.pk [1, 0]
 obtain ⟨r74, hr75⟩ : ∃ q, wire_writeOp l45 x59 = q := ⟨_, rfl⟩
 obtain ⟨D69, HP70, ro71, bk72, rr73⟩ := Own.enter1 H68
 refine WL.do rfl (Do.callV Tryz.call58 rfl rfl (wire_writeOp_ok _ _ A43 l45.length c44 l45 x59 r74 HP70 rfl (by omega) (by omega) hr75) ?_)
 rintro _ w76 ⟨A79, c80, rfl, HQ77, hk81⟩
 have H78 := bk72 _ _ HQ77
 have hb82 := H78.rowC (i := 0) rfl
 replace hk81 : r74.length ≤ l45.length + 106 := hk81
 refine Az rfl (WL.nil (bN (Fin.then (Wp.region (fw (.int .i64 ((k46 + 1 : Nat) : Int)) (Yl.int (e := IntKind.i64.wrap (((k46 : Nat) : Int) + 1)) yk (by rw [IntWalk.i64_in _ (by omega)]; omega)) (Mz rfl (WL.nil ?_)))))))
 have H83 := H78.pk [0]
 exact Fin.round (A79, c80, r74, k46 + 1) ⟨rfl, rfl, rfl, rfl, rfl, rfl, trivial⟩ (dm54.2 ⟨H83, by omega, by omega, et (hq55) (et (congrArg (fun q => wire_list_api_Op_L0 q l45) hd62) (bnd_of hr75))⟩) (by show l1.length - (k46 + 1) < l1.length - k46; omega)
 refine jF (dF h58) (Wp.exit (Fin.thenX ?_))
 have hL84 : wire_list_api_Op_L0 l1 (l0 ++ r26) = l45 := et (hq55) (et (congrArg (fun q => wire_list_api_Op_L0 q l45) (drop_end (ls := l1) (i := k46) (by omega))) rfl)
 refine Fin.thenX (Fin.blockX (Fin.then (sr (Mz rfl (An rfl (rt (rs ?_)))))))
 have H85 := H50.pk [0]
 obtain rfl : _ = l45 := hr.symm.trans (et (bnd_of hr27) (bnd_of hL84))
 exact ⟨A43, c44, rfl, H85, (by first | omega | (simp only [List.length_cons, List.length_nil, List.length_append]; omega))⟩
def wire_writeOwner (l0 : List UInt8) (p1 : OwnerD) : (List UInt8) :=
 bnd (wire_texts l0 ([p1.xLo])) fun yr100 => (yr100 ++ [(u8I p1.xShard)])
set_option maxRecDepth 100000 in
theorem wire_writeOwner_ok (w : World) (D : Nat → Prop) (A0 : Option Addr) (n0 c0 : Nat) (l0 : List UInt8) (p1 : OwnerD) (r0 : List UInt8) (H : Own w D w [row A0 n0 c0 (List.flatMap eB l0) 5 1]) (hn0 : n0 = l0.length) (hl0 : l0.length * 1 ≤ 211106232532992) (hh0 : l0.length ≤ 4000000000 ∧ p1.xLo.length ≤ 12) (hr : wire_writeOwner l0 p1 = r0) :
    Calls Tryz.prog 62 #[.slice A0 n0 c0, .agg (OwnerD.cells p1).toArray] w (Ret fun v w' => ∃ (B0 : Option Addr) (b0 : Nat), v = .slice B0 r0.length b0 ∧ Own w D w' [row B0 r0.length b0 (List.flatMap eB r0) 5 1] ∧ (r0.length ≤ l0.length + 27)) := by
 subst hn0
 have hc0 := H.rowC (i := 0) rfl
 refine Calls.body (args := [.slice A0 l0.length c0, .agg (OwnerD.cells p1).toArray]) Tryz.func62 rfl rfl rfl ?_
 show Wp _ _ _ [(0, .slice A0 l0.length c0), (1, .agg (OwnerD.cells p1).toArray)] _ _
 refine sr ?_
 refine npw (OwnerD.cells p1) 88 H ?_
 intro g21 w22 H23
 refine An rfl (Wp.seq ?_)
 have H25 := H23.drew
 refine Wp.drawnX [] (fun W => ∃ L', Own w D W ([blk g21 (OwnerD.cells p1) 88] ++ L')) (by kernel_rfl) (by kernel_rfl) (NoP.then NoP.base) ⟨_, H25⟩ ?_
 revert H25
 generalize World.drew w22 = w24
 intro H25
 refine GX.take (v := .slice A0 l0.length c0) (rs := []) 0 rfl (by kernel_rfl) (fun _ _ => Yl.move rfl) (GX.take (v := .pointer (some ⟨g21, 0, none⟩)) (rs := []) 1 rfl (by kernel_rfl) (fun _ _ => yk) (GX.take (v := .string ⟨List.toArray p1.xLo⟩) (rs := []) 2 rfl (by kernel_rfl) (fun _ ⟨_, H9⟩ => Yl.load rfl (Lds.one Tryz.isAgg9 (Cls.of (H9.cls (i := 0) rfl) rfl))) (GX.take (v := .pointer (some ⟨g21, 1, none⟩)) (rs := []) 5 rfl (by kernel_rfl) (fun _ _ => yk) (GX.take (v := .int .i64 p1.xShard) (rs := []) 6 rfl (by kernel_rfl) (fun _ ⟨_, H9⟩ => Yl.load rfl (Lds.one Tryz.isAgg3 (Cls.of (H9.cls (i := 0) rfl) rfl))) (GX.take (v := .int .u8 (((u8I p1.xShard).toNat : Nat) : Int)) (rs := []) 7 rfl (by kernel_rfl) (fun _ _ => Yl.int (e := IntKind.u8.wrap p1.xShard) yk (u8I_wrap _)) ?_)))))
 refine GX.any2 3 8 (by kernel_rfl) ?_ ?_
 refine GY.do 3 rfl (by kernel_rfl) (Do.newRow (cs := [.string ⟨List.toArray p1.xLo⟩]) (t := 9) (sz := 1) (m := 1) H25 rfl rfl (fun _ => by kernel_rfl) rfl (by decide) ?_)
 intro A26 w27 H28
 replace H28 := Own.reh (y := row A26 1 1 (List.flatMap eS ([p1.xLo])) 9 1) rfl H28
 have H29 := H28.pk [1, 0, 2]
 refine ⟨.inr ⟨_, H29⟩, ?_⟩
 refine GX.any2 4 8 (by kernel_rfl) ?_ ?_
 have H30 := H29.pk [2, 0, 1]
 obtain ⟨r36, hr37⟩ : ∃ q, wire_texts l0 ([p1.xLo]) = q := ⟨_, rfl⟩
 obtain ⟨D31, HP32, ro33, bk34, rr35⟩ := Own.enter1 H30
 refine GY.do 4 rfl (by kernel_rfl) (Do.call Tryz.call56 rfl (wire_texts_ok _ _ A0 l0.length c0 l0 A26 1 1 ([p1.xLo]) r36 HP32 rfl (by omega) (rr35 _ 1 _ rfl row_rds) rfl (by simp) (by first | omega | (simp only [List.length_cons, List.length_nil, List.length_append]; omega)) (by refine ⟨Nat.le_of_ble_eq_true rfl, ?_⟩; simp only [List.mem_cons, List.not_mem_nil, or_false, forall_eq_or_imp, forall_eq]; omega) hr37) ?_)
 rintro _ w38 ⟨A41, c42, rfl, HQ39, hk43⟩
 have H40 := bk34 _ _ HQ39
 have hb44 := H40.rowC (i := 0) rfl
 replace hk43 : r36.length ≤ l0.length + 26 * 1 := hk43
 have H45 := H40.pk [1, 0, 2]
 refine ⟨.inr ⟨_, H45⟩, ?_⟩
 refine GX.do 8 rfl (by kernel_rfl) (Do.newRow (cs := [.int .u8 (((u8I p1.xShard).toNat : Nat) : Int)]) (t := 5) (sz := 1) (m := 1) H45 rfl rfl (fun _ => by kernel_rfl) rfl (by decide) ?_)
 intro A46 w47 H48
 replace H48 := Own.reh (y := row A46 1 1 (List.flatMap eB ([(u8I p1.xShard)])) 5 1) rfl H48
 have H49 := H48.pk [1, 0, 2, 3]
 refine ⟨.inr ⟨_, H49⟩, ?_⟩
 have H50 := H49.pk [2, 0, 1, 3]
 refine GX.do 9 rfl (by kernel_rfl) (Do.appendW (k := r36.length) (m := 1) (El31) H50 rfl rfl (src_of Tryz.underlying31 (H50.rds (i := 2) rfl) (flat_one eB_one ([(u8I p1.xShard)]))) rfl (by omega) (s := List.length (r36 ++ [(u8I p1.xShard)])) (by first | omega | (simp only [List.length_append, List.length_cons, List.length_nil] <;> omega)) (List.flatMap_append).symm ?_)
 intro A51 c52 w53 H54
 have hl55 : List.length (r36 ++ [(u8I p1.xShard)]) = r36.length + 1 := by simp only [List.length_append, List.length_cons, List.length_nil]
 have H56 := H54.pk [1, 0, 2, 3]
 refine ⟨.inr ⟨_, H56⟩, ?_⟩
 refine GX.take (v := .slice A51 (List.length (r36 ++ [(u8I p1.xShard)])) c52) (rs := []) 10 rfl (by kernel_rfl) (fun _ _ => Yl.assign rfl) (GX.done (by kernel_rfl) (Fin.then (rt (rs ?_))))
 have H57 := H56.pk [1]
 obtain rfl : _ = (r36 ++ [(u8I p1.xShard)]) := hr.symm.trans (bnd_of hr37)
 exact ⟨A51, c52, rfl, H57, (by first | omega | (simp only [List.length_cons, List.length_nil, List.length_append]; omega))⟩
 refine GY.do 8 rfl (by kernel_rfl) (Do.newRow (cs := [.int .u8 (((u8I p1.xShard).toNat : Nat) : Int)]) (t := 5) (sz := 1) (m := 1) H29 rfl rfl (fun _ => by kernel_rfl) rfl (by decide) ?_)
 intro A58 w59 H60
 replace H60 := Own.reh (y := row A58 1 1 (List.flatMap eB ([(u8I p1.xShard)])) 5 1) rfl H60
 have H61 := H60.pk [1, 0, 2, 3]
 refine ⟨.inr ⟨_, H61⟩, ?_⟩
 have H62 := H61.pk [3, 0, 1, 2]
 obtain ⟨r68, hr69⟩ : ∃ q, wire_texts l0 ([p1.xLo]) = q := ⟨_, rfl⟩
 obtain ⟨D63, HP64, ro65, bk66, rr67⟩ := Own.enter1 H62
 refine GX.do 4 rfl (by kernel_rfl) (Do.call Tryz.call56 rfl (wire_texts_ok _ _ A0 l0.length c0 l0 A26 1 1 ([p1.xLo]) r68 HP64 rfl (by omega) (rr67 _ 2 _ rfl row_rds) rfl (by simp) (by first | omega | (simp only [List.length_cons, List.length_nil, List.length_append]; omega)) (by refine ⟨Nat.le_of_ble_eq_true rfl, ?_⟩; simp only [List.mem_cons, List.not_mem_nil, or_false, forall_eq_or_imp, forall_eq]; omega) hr69) ?_)
 rintro _ w70 ⟨A73, c74, rfl, HQ71, hk75⟩
 have H72 := bk66 _ _ HQ71
 have hb76 := H72.rowC (i := 0) rfl
 replace hk75 : r68.length ≤ l0.length + 26 * 1 := hk75
 have H77 := H72.pk [1, 0, 2, 3]
 refine ⟨.inr ⟨_, H77⟩, ?_⟩
 have H78 := H77.pk [1, 0, 2, 3]
 refine GX.do 9 rfl (by kernel_rfl) (Do.appendW (k := r68.length) (m := 1) (El31) H78 rfl rfl (src_of Tryz.underlying31 (H78.rds (i := 2) rfl) (flat_one eB_one ([(u8I p1.xShard)]))) rfl (by omega) (s := List.length (r68 ++ [(u8I p1.xShard)])) (by first | omega | (simp only [List.length_append, List.length_cons, List.length_nil] <;> omega)) (List.flatMap_append).symm ?_)
 intro A79 c80 w81 H82
 have hl83 : List.length (r68 ++ [(u8I p1.xShard)]) = r68.length + 1 := by simp only [List.length_append, List.length_cons, List.length_nil]
 have H84 := H82.pk [1, 0, 2, 3]
 refine ⟨.inr ⟨_, H84⟩, ?_⟩
 refine GX.take (v := .slice A79 (List.length (r68 ++ [(u8I p1.xShard)])) c80) (rs := []) 10 rfl (by kernel_rfl) (fun _ _ => Yl.assign rfl) (GX.done (by kernel_rfl) (Fin.then (rt (rs ?_))))
 have H85 := H84.pk [1]
 obtain rfl : _ = (r68 ++ [(u8I p1.xShard)]) := hr.symm.trans (bnd_of hr69)
 exact ⟨A79, c80, rfl, H85, (by first | omega | (simp only [List.length_cons, List.length_nil, List.length_append]; omega))⟩
 refine GY.do 8 rfl (by kernel_rfl) (Do.newRow (cs := [.int .u8 (((u8I p1.xShard).toNat : Nat) : Int)]) (t := 5) (sz := 1) (m := 1) H25 rfl rfl (fun _ => by kernel_rfl) rfl (by decide) ?_)
 intro A86 w87 H88
 replace H88 := Own.reh (y := row A86 1 1 (List.flatMap eB ([(u8I p1.xShard)])) 5 1) rfl H88
 have H89 := H88.pk [1, 0, 2]
 refine ⟨.inr ⟨_, H89⟩, ?_⟩
 refine GX.do 3 rfl (by kernel_rfl) (Do.newRow (cs := [.string ⟨List.toArray p1.xLo⟩]) (t := 9) (sz := 1) (m := 1) H89 rfl rfl (fun _ => by kernel_rfl) rfl (by decide) ?_)
 intro A90 w91 H92
 replace H92 := Own.reh (y := row A90 1 1 (List.flatMap eS ([p1.xLo])) 9 1) rfl H92
 have H93 := H92.pk [1, 0, 2, 3]
 refine ⟨.inr ⟨_, H93⟩, ?_⟩
 have H94 := H93.pk [3, 0, 1, 2]
 obtain ⟨r100, hr101⟩ : ∃ q, wire_texts l0 ([p1.xLo]) = q := ⟨_, rfl⟩
 obtain ⟨D95, HP96, ro97, bk98, rr99⟩ := Own.enter1 H94
 refine GX.do 4 rfl (by kernel_rfl) (Do.call Tryz.call56 rfl (wire_texts_ok _ _ A0 l0.length c0 l0 A90 1 1 ([p1.xLo]) r100 HP96 rfl (by omega) (rr99 _ 1 _ rfl row_rds) rfl (by simp) (by first | omega | (simp only [List.length_cons, List.length_nil, List.length_append]; omega)) (by refine ⟨Nat.le_of_ble_eq_true rfl, ?_⟩; simp only [List.mem_cons, List.not_mem_nil, or_false, forall_eq_or_imp, forall_eq]; omega) hr101) ?_)
 rintro _ w102 ⟨A105, c106, rfl, HQ103, hk107⟩
 have H104 := bk98 _ _ HQ103
 have hb108 := H104.rowC (i := 0) rfl
 replace hk107 : r100.length ≤ l0.length + 26 * 1 := hk107
 have H109 := H104.pk [1, 0, 2, 3]
 refine ⟨.inr ⟨_, H109⟩, ?_⟩
 have H110 := H109.pk [1, 0, 2, 3]
 refine GX.do 9 rfl (by kernel_rfl) (Do.appendW (k := r100.length) (m := 1) (El31) H110 rfl rfl (src_of Tryz.underlying31 (H110.rds (i := 3) rfl) (flat_one eB_one ([(u8I p1.xShard)]))) rfl (by omega) (s := List.length (r100 ++ [(u8I p1.xShard)])) (by first | omega | (simp only [List.length_append, List.length_cons, List.length_nil] <;> omega)) (List.flatMap_append).symm ?_)
 intro A111 c112 w113 H114
 have hl115 : List.length (r100 ++ [(u8I p1.xShard)]) = r100.length + 1 := by simp only [List.length_append, List.length_cons, List.length_nil]
 have H116 := H114.pk [1, 0, 2, 3]
 refine ⟨.inr ⟨_, H116⟩, ?_⟩
 refine GX.take (v := .slice A111 (List.length (r100 ++ [(u8I p1.xShard)])) c112) (rs := []) 10 rfl (by kernel_rfl) (fun _ _ => Yl.assign rfl) (GX.done (by kernel_rfl) (Fin.then (rt (rs ?_))))
 have H117 := H116.pk [1]
 obtain rfl : _ = (r100 ++ [(u8I p1.xShard)]) := hr.symm.trans (bnd_of hr101)
 exact ⟨A111, c112, rfl, H117, (by first | omega | (simp only [List.length_cons, List.length_nil, List.length_append]; omega))⟩
def wire_list_api_Owner_L0 : List OwnerD → List UInt8 → (List UInt8)
  | [], l45 => l45
  | x59 :: q47, l45 => bnd (wire_writeOwner l45 x59) fun yr74 => wire_list_api_Owner_L0 q47 yr74
def wire_list_api_Owner (l0 : List UInt8) (l1 : List OwnerD) : (List UInt8) :=
 bnd (octet_Num l1.length) fun yr26 => bnd (wire_list_api_Owner_L0 l1 (l0 ++ yr26)) fun sLrbL => sLrbL
set_option maxRecDepth 100000 in
theorem wire_list_api_Owner_ok (w : World) (D : Nat → Prop) (A0 : Option Addr) (n0 c0 : Nat) (l0 : List UInt8) (A1 : Option Addr) (n1 c1 : Nat) (l1 : List OwnerD) (r0 : List UInt8) (H : Own w D w [row A0 n0 c0 (List.flatMap eB l0) 5 1]) (hn0 : n0 = l0.length) (hl0 : l0.length * 1 ≤ 211106232532992) (hx1 : Ro w D fun w' => Rds w' 2 A1 n1 (List.flatMap OwnerD.cells l1)) (hn1 : n1 = l1.length) (hl1 : l1.length * 24 ≤ 211106232532992) (hh0 : l0.length ≤ 1000000000) (hh1 : (l1.length ≤ 6 ∧ ∀ x ∈ l1, x.xLo.length ≤ 12)) (hr : wire_list_api_Owner l0 l1 = r0) :
    Calls Tryz.prog 61 #[.slice A0 n0 c0, .slice A1 n1 c1, .func (.func 62) #[] #[]] w (Ret fun v w' => ∃ (B0 : Option Addr) (b0 : Nat), v = .slice B0 r0.length b0 ∧ Own w D w' [row B0 r0.length b0 (List.flatMap eB r0) 5 1] ∧ (r0.length ≤ l0.length + 10 + 27 * l1.length)) := by
 subst hn0 hn1
 have hc0 := H.rowC (i := 0) rfl
 have hh1a := hh1.1
 refine Calls.body (args := [.slice A0 l0.length c0, .slice A1 l1.length c1, .func (.func 62) #[] #[]]) Tryz.func61 rfl rfl rfl ?_
 show Wp _ _ _ [(0, .slice A0 l0.length c0), (1, .slice A1 l1.length c1), (2, .func (.func 62) #[] #[])] _ _
 refine sr (Ar rfl (Mz rfl (Mz rfl (Kz (.int .i64 ((l1.length : Nat) : Int)) (fw (.int .u64 ((l1.length : Nat) : Int)) (Yl.int (e := IntKind.u64.wrap ((l1.length : Nat) : Int)) yk (IntWalk.u64_in _ (by omega))) ?_)))))
 obtain ⟨r26, hr27⟩ : ∃ q, octet_Num l1.length = q := ⟨_, rfl⟩
 obtain ⟨D21, HP22, ro23, bk24, rr25⟩ := Own.enter0 H
 refine cl Tryz.call51 (octet_Num_ok _ _ l1.length r26 HP22 (by omega) hr27) ?_
 rintro _ w28 ⟨A31, c32, rfl, HQ29, hk33, hk34⟩
 have H30 := bk24 _ _ HQ29
 have hb35 := H30.rowC (i := 0) rfl
 replace hk33 : 1 ≤ r26.length ∧ r26.length ≤ 10 := hk33
 replace hk34 : l1.length ≥ 128 ∨ r26.length = 1 := hk34
 have H36 := H30.pk [1, 0]
 refine WL.do rfl (Do.appendW (k := l0.length) (m := r26.length) (El31) H36 rfl rfl (src_of Tryz.underlying31 (H36.rds (i := 1) rfl) (flat_one eB_one r26)) rfl (by omega) (s := List.length (l0 ++ r26)) (by first | omega | (simp only [List.length_append, List.length_cons, List.length_nil] <;> omega)) (List.flatMap_append).symm ?_)
 intro A37 c38 w39 H40
 have hl41 : List.length (l0 ++ r26) = l0.length + r26.length := by simp only [List.length_append, List.length_cons, List.length_nil]
 refine An rfl (Wp.seq (Wp.seq ?_))
 have H42 := H40.pk [0]
 refine Wp.region (Mz rfl (Kz (.int .i64 ((l1.length : Nat) : Int)) (Mn rfl (bo ?_))))
 have H48 := H42.pk [0]
 obtain ⟨I52, hI53⟩ : ∃ q : ((Option Addr) × Nat × (List UInt8) × Nat) → World → Prop, q = fun (i : (Option Addr) × Nat × (List UInt8) × Nat) w' => Own w D w' [row i.1 i.2.2.1.length i.2.1 (List.flatMap eB i.2.2.1) 5 1] ∧ (i.2.2.2 ≤ l1.length ∧ ((i.2.2.1.length : Nat) : Int) ≤ ((l0.length : Nat) : Int) + 10 + 27 * ((i.2.2.2 : Nat) : Int) ∧ wire_list_api_Owner_L0 l1 (l0 ++ r26) = wire_list_api_Owner_L0 (List.drop i.2.2.2 l1) i.2.2.1) := ⟨_, rfl⟩
 have dm54 : ∀ {A43 : Option Addr} {c44 : Nat} {l45 : List UInt8} {k46 : Nat} {w' : World}, I52 (A43, c44, l45, k46) w' ↔ Own w D w' [row A43 l45.length c44 (List.flatMap eB l45) 5 1] ∧ k46 ≤ l1.length ∧ ((l45.length : Nat) : Int) ≤ ((l0.length : Nat) : Int) + 10 + 27 * ((k46 : Nat) : Int) ∧ wire_list_api_Owner_L0 l1 (l0 ++ r26) = wire_list_api_Owner_L0 (List.drop k46 l1) l45 := by intros; subst hI53; exact Iff.rfl
 refine Wp.loop (fun i : (Option Addr) × Nat × (List UInt8) × Nat => [(0, .slice i.1 i.2.2.1.length i.2.1), (17, .int .i64 ((i.2.2.2 : Nat) : Int)), (16, .int .i64 ((l1.length : Nat) : Int)), (15, .slice A1 l1.length c1), (6, .slice none 0 0), (2, .func (.func 62) #[] #[])]) I52 (fun i => l1.length - i.2.2.2) (A37, c38, (l0 ++ r26), 0) ⟨rfl, rfl, rfl, rfl, rfl, rfl, trivial⟩ (dm54.2 ⟨H48, by omega, by omega, rfl⟩) ?_
 rintro ⟨A43, c44, l45, k46⟩ w49 hf51
 show Wp _ _ _ [(0, .slice A43 l45.length c44), (17, .int .i64 ((k46 : Nat) : Int)), (16, .int .i64 ((l1.length : Nat) : Int)), (15, .slice A1 l1.length c1), (6, .slice none 0 0), (2, .func (.func 62) #[] #[])] _ _
 obtain ⟨H50, hi56, hi57, hq55⟩ := dm54.1 hf51
 refine sr (Kz (.bool (decide (((k46 : Nat) : Int) < ((l1.length : Nat) : Int)))) (nt (Wp.seq ?_)))
 by_cases h58 : ((k46 : Nat) : Int) < ((l1.length : Nat) : Int)
 obtain ⟨x59, hx60⟩ := rds_at (ls := l1) (i := k46) OwnerD.len (by decide) (H50.ro hx1) (by first | omega | (simp; done) | (simp; omega))
 have hz61 : x59.xLo.length ≤ 12 := hh1.2 _ (List.mem_of_getElem? hx60)
 have hd62 := drop_at hx60
 refine jT (dT h58) (sk (Wp.seq (bo (sr (fw (.pointer (some ⟨ab A1, ao A1 + k46 * 2, none⟩)) (Yl.indexAddr (El27) rfl rfl ((H50.ro hx1).addr (i := k46) (by omega)) (by omega)) (fw (.agg (OwnerD.cells x59).toArray) (Yl.load rfl (Lds.agg (cs := (OwnerD.cells x59)) Tryz.isAgg88 Tryz.sizeOf88 ((H50.ro hx1).elem OwnerD.len hx60 (by decide)))) ?_))))))
 refine npw [.string ⟨List.toArray ([])⟩, .int .i64 0] 88 H50 ?_
 intro g63 w64 H65
 refine sto (OwnerD.cells x59) 0 H65 Tryz.sizeOf88 ?_
 intro w66 H67
 refine nt (Wp.region (Mz rfl (Mz rfl (La (OwnerD.cells x59) H67 0 Tryz.isAgg88 Tryz.sizeOf88 ?_))))
 have H68 := H67.pk [1, 0]
 obtain ⟨r74, hr75⟩ : ∃ q, wire_writeOwner l45 x59 = q := ⟨_, rfl⟩
 obtain ⟨D69, HP70, ro71, bk72, rr73⟩ := Own.enter1 H68
 refine WL.do rfl (Do.callV Tryz.call62 rfl rfl (wire_writeOwner_ok _ _ A43 l45.length c44 l45 x59 r74 HP70 rfl (by omega) (by omega) hr75) ?_)
 rintro _ w76 ⟨A79, c80, rfl, HQ77, hk81⟩
 have H78 := bk72 _ _ HQ77
 have hb82 := H78.rowC (i := 0) rfl
 replace hk81 : r74.length ≤ l45.length + 27 := hk81
 refine Az rfl (WL.nil (bN (Fin.then (Wp.region (fw (.int .i64 ((k46 + 1 : Nat) : Int)) (Yl.int (e := IntKind.i64.wrap (((k46 : Nat) : Int) + 1)) yk (by rw [IntWalk.i64_in _ (by omega)]; omega)) (Mz rfl (WL.nil ?_)))))))
 have H83 := H78.pk [0]
 exact Fin.round (A79, c80, r74, k46 + 1) ⟨rfl, rfl, rfl, rfl, rfl, rfl, trivial⟩ (dm54.2 ⟨H83, by omega, by omega, et (hq55) (et (congrArg (fun q => wire_list_api_Owner_L0 q l45) hd62) (bnd_of hr75))⟩) (by show l1.length - (k46 + 1) < l1.length - k46; omega)
 refine jF (dF h58) (Wp.exit (Fin.thenX ?_))
 have hL84 : wire_list_api_Owner_L0 l1 (l0 ++ r26) = l45 := et (hq55) (et (congrArg (fun q => wire_list_api_Owner_L0 q l45) (drop_end (ls := l1) (i := k46) (by omega))) rfl)
 refine Fin.thenX (Fin.blockX (Fin.then (sr (Mz rfl (An rfl (rt (rs ?_)))))))
 have H85 := H50.pk [0]
 obtain rfl : _ = l45 := hr.symm.trans (et (bnd_of hr27) (bnd_of hL84))
 exact ⟨A43, c44, rfl, H85, (by first | omega | (simp only [List.length_cons, List.length_nil, List.length_append]; omega))⟩
def wire_writeResult (l0 : List UInt8) (p1 : ResultT) : (List UInt8) :=
 bnd (wire_truth p1.xFound) fun yr185 => bnd (wire_texts (l0 ++ [yr185]) ([p1.xValue])) fun yr207 => bnd (wire_list_api_Pair yr207 p1.xPairs.ls) fun yr223 => yr223
set_option maxRecDepth 100000 in
theorem wire_writeResult_ok (w : World) (D : Nat → Prop) (A0 : Option Addr) (n0 c0 : Nat) (l0 : List UInt8) (p1 : ResultT) (A1x0 : Option Addr) (n1x0 c1x0 : Nat) (r0 : List UInt8) (H : Own w D w [row A0 n0 c0 (List.flatMap eB l0) 5 1]) (hn0 : n0 = l0.length) (hl0 : l0.length * 1 ≤ 211106232532992) (hn1x0 : n1x0 = p1.xPairs.ls.length) (hx1x0 : Ro w D fun w' => Rds w' 2 A1x0 p1.xPairs.ls.length (List.flatMap PairD.cells p1.xPairs.ls)) (hb1x0 : p1.xPairs.ls.length ≤ c1x0 ∧ p1.xPairs.ls.length ≤ 9223372036854775807) (hh0 : l0.length ≤ 2000000000) (hh1 : (p1.xValue.length ≤ 16 ∧ p1.xPairs.ls.length ≤ 4 ∧ ∀ q ∈ p1.xPairs.ls, q.xKey.length ≤ 12 ∧ q.xValue.length ≤ 16)) (hr : wire_writeResult l0 p1 = r0) :
    Calls Tryz.prog 60 #[.slice A0 n0 c0, .agg #[.bool p1.xFound, .string ⟨List.toArray p1.xValue⟩, .slice A1x0 n1x0 c1x0]] w (Ret fun v w' => ∃ (B0 : Option Addr) (b0 : Nat), v = .slice B0 r0.length b0 ∧ Own w D w' [row B0 r0.length b0 (List.flatMap eB r0) 5 1] ∧ (r0.length ≤ l0.length + 245)) := by
 subst hn0 hn1x0
 have hc0 := H.rowC (i := 0) rfl
 have hh1a := hh1.1
 have hh1b := hh1.2.1
 refine Calls.body (args := [.slice A0 l0.length c0, .agg #[.bool p1.xFound, .string ⟨List.toArray p1.xValue⟩, .slice A1x0 p1.xPairs.ls.length c1x0]]) Tryz.func60 rfl rfl rfl ?_
 show Wp _ _ _ [(0, .slice A0 l0.length c0), (1, .agg #[.bool p1.xFound, .string ⟨List.toArray p1.xValue⟩, .slice A1x0 p1.xPairs.ls.length c1x0])] _ _
 refine sr ?_
 refine npw [.bool p1.xFound, .string ⟨List.toArray p1.xValue⟩, .slice A1x0 p1.xPairs.ls.length c1x0] 84 H ?_
 intro g21 w22 H23
 refine An rfl (Wp.seq ?_)
 have H25 := H23.drew
 refine Wp.drawnX [] (fun W => ∃ L', Own w D W ([blk g21 [.bool p1.xFound, .string ⟨List.toArray p1.xValue⟩, .slice A1x0 p1.xPairs.ls.length c1x0] 84] ++ L')) (by kernel_rfl) (by kernel_rfl) (NoP.then NoP.base) ⟨_, H25⟩ ?_
 revert H25
 generalize World.drew w22 = w24
 intro H25
 refine GX.take (v := .slice A0 l0.length c0) (rs := []) 0 rfl (by kernel_rfl) (fun _ _ => Yl.move rfl) (GX.take (v := .pointer (some ⟨g21, 0, none⟩)) (rs := []) 1 rfl (by kernel_rfl) (fun _ _ => yk) (GX.take (v := .bool p1.xFound) (rs := []) 2 rfl (by kernel_rfl) (fun _ ⟨_, H9⟩ => Yl.load rfl (Lds.one Tryz.isAgg4 (Cls.of (H9.cls (i := 0) rfl) rfl))) (GX.take (v := .pointer (some ⟨g21, 1, none⟩)) (rs := []) 6 rfl (by kernel_rfl) (fun _ _ => yk) (GX.take (v := .string ⟨List.toArray p1.xValue⟩) (rs := []) 7 rfl (by kernel_rfl) (fun _ ⟨_, H9⟩ => Yl.load rfl (Lds.one Tryz.isAgg9 (Cls.of (H9.cls (i := 0) rfl) rfl))) (GX.take (v := .pointer (some ⟨g21, 2, none⟩)) (rs := []) 10 rfl (by kernel_rfl) (fun _ _ => yk) (GX.take (v := .slice A1x0 p1.xPairs.ls.length c1x0) (rs := []) 11 rfl (by kernel_rfl) (fun _ ⟨_, H9⟩ => Yl.load rfl (Lds.one Tryz.isAgg82 (Cls.of (H9.cls (i := 0) rfl) rfl))) ?_))))))
 refine GX.any2 3 8 (by kernel_rfl) ?_ ?_
 obtain ⟨r31, hr32⟩ : ∃ q, wire_truth p1.xFound = q := ⟨_, rfl⟩
 obtain ⟨D26, HP27, ro28, bk29, rr30⟩ := Own.enter0 H25
 refine GY.do 3 rfl (by kernel_rfl) (Do.call Tryz.call55 rfl (wire_truth_ok _ _ p1.xFound r31 HP27 hr32) ?_)
 rintro _ w33 ⟨rfl, HQ34⟩
 have H35 := bk29 _ _ HQ34
 refine ⟨.inr ⟨_, H35⟩, ?_⟩
 refine GX.any2 4 8 (by kernel_rfl) ?_ ?_
 refine GY.do 4 rfl (by kernel_rfl) (Do.newRow (cs := [.int .u8 ((r31.toNat : Nat) : Int)]) (t := 5) (sz := 1) (m := 1) H35 rfl rfl (fun _ => by kernel_rfl) rfl (by decide) ?_)
 intro A36 w37 H38
 replace H38 := Own.reh (y := row A36 1 1 (List.flatMap eB ([r31])) 5 1) rfl H38
 have H39 := H38.pk [1, 0, 2]
 refine ⟨.inr ⟨_, H39⟩, ?_⟩
 refine GX.any2 5 8 (by kernel_rfl) ?_ ?_
 have H40 := H39.pk [2, 0, 1]
 refine GY.do 5 rfl (by kernel_rfl) (Do.appendW (k := l0.length) (m := 1) (El31) H40 rfl rfl (src_of Tryz.underlying31 (H40.rds (i := 2) rfl) (flat_one eB_one ([r31]))) rfl (by omega) (s := List.length (l0 ++ [r31])) (by first | omega | (simp only [List.length_append, List.length_cons, List.length_nil] <;> omega)) (List.flatMap_append).symm ?_)
 intro A41 c42 w43 H44
 have hl45 : List.length (l0 ++ [r31]) = l0.length + 1 := by simp only [List.length_append, List.length_cons, List.length_nil]
 have H46 := H44.pk [1, 0, 2]
 refine ⟨.inr ⟨_, H46⟩, ?_⟩
 refine GX.do 8 rfl (by kernel_rfl) (Do.newRow (cs := [.string ⟨List.toArray p1.xValue⟩]) (t := 9) (sz := 1) (m := 1) H46 rfl rfl (fun _ => by kernel_rfl) rfl (by decide) ?_)
 intro A47 w48 H49
 replace H49 := Own.reh (y := row A47 1 1 (List.flatMap eS ([p1.xValue])) 9 1) rfl H49
 have H50 := H49.pk [1, 0, 2, 3]
 refine ⟨.inr ⟨_, H50⟩, ?_⟩
 have H51 := H50.pk [2, 0, 1, 3]
 obtain ⟨r57, hr58⟩ : ∃ q, wire_texts (l0 ++ [r31]) ([p1.xValue]) = q := ⟨_, rfl⟩
 obtain ⟨D52, HP53, ro54, bk55, rr56⟩ := Own.enter1 H51
 refine GX.do 9 rfl (by kernel_rfl) (Do.call Tryz.call56 rfl (wire_texts_ok _ _ A41 (List.length (l0 ++ [r31])) c42 (l0 ++ [r31]) A47 1 1 ([p1.xValue]) r57 HP53 rfl (by first | omega | (simp only [List.length_append, List.length_cons, List.length_nil, List.length_take, List.length_drop, List.length_set]; omega)) (rr56 _ 1 _ rfl row_rds) rfl (by simp) (by first | omega | (simp only [List.length_cons, List.length_nil, List.length_append]; omega)) (by refine ⟨Nat.le_of_ble_eq_true rfl, ?_⟩; simp only [List.mem_cons, List.not_mem_nil, or_false, forall_eq_or_imp, forall_eq]; omega) hr58) ?_)
 rintro _ w59 ⟨A62, c63, rfl, HQ60, hk64⟩
 have H61 := bk55 _ _ HQ60
 have hb65 := H61.rowC (i := 0) rfl
 replace hk64 : r57.length ≤ List.length (l0 ++ [r31]) + 26 * 1 := hk64
 have H66 := H61.pk [1, 0, 2, 3]
 refine ⟨.inr ⟨_, H66⟩, ?_⟩
 have H67 := H66.pk [1, 0, 2, 3]
 obtain ⟨r73, hr74⟩ : ∃ q, wire_list_api_Pair r57 p1.xPairs.ls = q := ⟨_, rfl⟩
 obtain ⟨D68, HP69, ro70, bk71, rr72⟩ := Own.enter1 H67
 refine GX.do 12 rfl (by kernel_rfl) (Do.call Tryz.call100 rfl (wire_list_api_Pair_ok _ _ A62 r57.length c63 r57 A1x0 p1.xPairs.ls.length c1x0 p1.xPairs.ls r73 HP69 rfl (by omega) (ro70 _ hx1x0) rfl (by omega) (by first | omega | (simp only [List.length_cons, List.length_nil, List.length_append]; omega)) (by exact ⟨hh1b, hh1.2.2⟩) hr74) ?_)
 rintro _ w75 ⟨A78, c79, rfl, HQ76, hk80⟩
 have H77 := bk71 _ _ HQ76
 have hb81 := H77.rowC (i := 0) rfl
 replace hk80 : r73.length ≤ r57.length + 10 + 52 * p1.xPairs.ls.length := hk80
 have H82 := H77.pk [1, 0, 2, 3]
 refine ⟨.inr ⟨_, H82⟩, ?_⟩
 refine GX.take (v := .slice A78 r73.length c79) (rs := []) 13 rfl (by kernel_rfl) (fun _ _ => Yl.assign rfl) (GX.done (by kernel_rfl) (Fin.then (rt (rs ?_))))
 have H83 := H82.pk [1]
 obtain rfl : _ = r73 := hr.symm.trans (et (bnd_of hr32) (et (bnd_of hr58) (bnd_of hr74)))
 exact ⟨A78, c79, rfl, H83, (by first | omega | (simp only [List.length_cons, List.length_nil, List.length_append]; omega))⟩
 refine GY.do 8 rfl (by kernel_rfl) (Do.newRow (cs := [.string ⟨List.toArray p1.xValue⟩]) (t := 9) (sz := 1) (m := 1) H39 rfl rfl (fun _ => by kernel_rfl) rfl (by decide) ?_)
 intro A84 w85 H86
 replace H86 := Own.reh (y := row A84 1 1 (List.flatMap eS ([p1.xValue])) 9 1) rfl H86
 have H87 := H86.pk [1, 0, 2, 3]
 refine ⟨.inr ⟨_, H87⟩, ?_⟩
 have H88 := H87.pk [3, 0, 1, 2]
 refine GX.do 5 rfl (by kernel_rfl) (Do.appendW (k := l0.length) (m := 1) (El31) H88 rfl rfl (src_of Tryz.underlying31 (H88.rds (i := 3) rfl) (flat_one eB_one ([r31]))) rfl (by omega) (s := List.length (l0 ++ [r31])) (by first | omega | (simp only [List.length_append, List.length_cons, List.length_nil] <;> omega)) (List.flatMap_append).symm ?_)
 intro A89 c90 w91 H92
 have hl93 : List.length (l0 ++ [r31]) = l0.length + 1 := by simp only [List.length_append, List.length_cons, List.length_nil]
 have H94 := H92.pk [1, 0, 2, 3]
 refine ⟨.inr ⟨_, H94⟩, ?_⟩
 have H95 := H94.pk [1, 0, 2, 3]
 obtain ⟨r101, hr102⟩ : ∃ q, wire_texts (l0 ++ [r31]) ([p1.xValue]) = q := ⟨_, rfl⟩
 obtain ⟨D96, HP97, ro98, bk99, rr100⟩ := Own.enter1 H95
 refine GX.do 9 rfl (by kernel_rfl) (Do.call Tryz.call56 rfl (wire_texts_ok _ _ A89 (List.length (l0 ++ [r31])) c90 (l0 ++ [r31]) A84 1 1 ([p1.xValue]) r101 HP97 rfl (by first | omega | (simp only [List.length_append, List.length_cons, List.length_nil, List.length_take, List.length_drop, List.length_set]; omega)) (rr100 _ 1 _ rfl row_rds) rfl (by simp) (by first | omega | (simp only [List.length_cons, List.length_nil, List.length_append]; omega)) (by refine ⟨Nat.le_of_ble_eq_true rfl, ?_⟩; simp only [List.mem_cons, List.not_mem_nil, or_false, forall_eq_or_imp, forall_eq]; omega) hr102) ?_)
 rintro _ w103 ⟨A106, c107, rfl, HQ104, hk108⟩
 have H105 := bk99 _ _ HQ104
 have hb109 := H105.rowC (i := 0) rfl
 replace hk108 : r101.length ≤ List.length (l0 ++ [r31]) + 26 * 1 := hk108
 have H110 := H105.pk [1, 0, 2, 3]
 refine ⟨.inr ⟨_, H110⟩, ?_⟩
 have H111 := H110.pk [1, 0, 2, 3]
 obtain ⟨r117, hr118⟩ : ∃ q, wire_list_api_Pair r101 p1.xPairs.ls = q := ⟨_, rfl⟩
 obtain ⟨D112, HP113, ro114, bk115, rr116⟩ := Own.enter1 H111
 refine GX.do 12 rfl (by kernel_rfl) (Do.call Tryz.call100 rfl (wire_list_api_Pair_ok _ _ A106 r101.length c107 r101 A1x0 p1.xPairs.ls.length c1x0 p1.xPairs.ls r117 HP113 rfl (by omega) (ro114 _ hx1x0) rfl (by omega) (by first | omega | (simp only [List.length_cons, List.length_nil, List.length_append]; omega)) (by exact ⟨hh1b, hh1.2.2⟩) hr118) ?_)
 rintro _ w119 ⟨A122, c123, rfl, HQ120, hk124⟩
 have H121 := bk115 _ _ HQ120
 have hb125 := H121.rowC (i := 0) rfl
 replace hk124 : r117.length ≤ r101.length + 10 + 52 * p1.xPairs.ls.length := hk124
 have H126 := H121.pk [1, 0, 2, 3]
 refine ⟨.inr ⟨_, H126⟩, ?_⟩
 refine GX.take (v := .slice A122 r117.length c123) (rs := []) 13 rfl (by kernel_rfl) (fun _ _ => Yl.assign rfl) (GX.done (by kernel_rfl) (Fin.then (rt (rs ?_))))
 have H127 := H126.pk [1]
 obtain rfl : _ = r117 := hr.symm.trans (et (bnd_of hr32) (et (bnd_of hr102) (bnd_of hr118)))
 exact ⟨A122, c123, rfl, H127, (by first | omega | (simp only [List.length_cons, List.length_nil, List.length_append]; omega))⟩
 refine GY.do 8 rfl (by kernel_rfl) (Do.newRow (cs := [.string ⟨List.toArray p1.xValue⟩]) (t := 9) (sz := 1) (m := 1) H35 rfl rfl (fun _ => by kernel_rfl) rfl (by decide) ?_)
 intro A128 w129 H130
 replace H130 := Own.reh (y := row A128 1 1 (List.flatMap eS ([p1.xValue])) 9 1) rfl H130
 have H131 := H130.pk [1, 0, 2]
 refine ⟨.inr ⟨_, H131⟩, ?_⟩
 refine GX.do 4 rfl (by kernel_rfl) (Do.newRow (cs := [.int .u8 ((r31.toNat : Nat) : Int)]) (t := 5) (sz := 1) (m := 1) H131 rfl rfl (fun _ => by kernel_rfl) rfl (by decide) ?_)
 intro A132 w133 H134
 replace H134 := Own.reh (y := row A132 1 1 (List.flatMap eB ([r31])) 5 1) rfl H134
 have H135 := H134.pk [1, 0, 2, 3]
 refine ⟨.inr ⟨_, H135⟩, ?_⟩
 have H136 := H135.pk [3, 0, 1, 2]
 refine GX.do 5 rfl (by kernel_rfl) (Do.appendW (k := l0.length) (m := 1) (El31) H136 rfl rfl (src_of Tryz.underlying31 (H136.rds (i := 2) rfl) (flat_one eB_one ([r31]))) rfl (by omega) (s := List.length (l0 ++ [r31])) (by first | omega | (simp only [List.length_append, List.length_cons, List.length_nil] <;> omega)) (List.flatMap_append).symm ?_)
 intro A137 c138 w139 H140
 have hl141 : List.length (l0 ++ [r31]) = l0.length + 1 := by simp only [List.length_append, List.length_cons, List.length_nil]
 have H142 := H140.pk [1, 0, 2, 3]
 refine ⟨.inr ⟨_, H142⟩, ?_⟩
 have H143 := H142.pk [1, 0, 2, 3]
 obtain ⟨r149, hr150⟩ : ∃ q, wire_texts (l0 ++ [r31]) ([p1.xValue]) = q := ⟨_, rfl⟩
 obtain ⟨D144, HP145, ro146, bk147, rr148⟩ := Own.enter1 H143
 refine GX.do 9 rfl (by kernel_rfl) (Do.call Tryz.call56 rfl (wire_texts_ok _ _ A137 (List.length (l0 ++ [r31])) c138 (l0 ++ [r31]) A128 1 1 ([p1.xValue]) r149 HP145 rfl (by first | omega | (simp only [List.length_append, List.length_cons, List.length_nil, List.length_take, List.length_drop, List.length_set]; omega)) (rr148 _ 2 _ rfl row_rds) rfl (by simp) (by first | omega | (simp only [List.length_cons, List.length_nil, List.length_append]; omega)) (by refine ⟨Nat.le_of_ble_eq_true rfl, ?_⟩; simp only [List.mem_cons, List.not_mem_nil, or_false, forall_eq_or_imp, forall_eq]; omega) hr150) ?_)
 rintro _ w151 ⟨A154, c155, rfl, HQ152, hk156⟩
 have H153 := bk147 _ _ HQ152
 have hb157 := H153.rowC (i := 0) rfl
 replace hk156 : r149.length ≤ List.length (l0 ++ [r31]) + 26 * 1 := hk156
 have H158 := H153.pk [1, 0, 2, 3]
 refine ⟨.inr ⟨_, H158⟩, ?_⟩
 have H159 := H158.pk [1, 0, 2, 3]
 obtain ⟨r165, hr166⟩ : ∃ q, wire_list_api_Pair r149 p1.xPairs.ls = q := ⟨_, rfl⟩
 obtain ⟨D160, HP161, ro162, bk163, rr164⟩ := Own.enter1 H159
 refine GX.do 12 rfl (by kernel_rfl) (Do.call Tryz.call100 rfl (wire_list_api_Pair_ok _ _ A154 r149.length c155 r149 A1x0 p1.xPairs.ls.length c1x0 p1.xPairs.ls r165 HP161 rfl (by omega) (ro162 _ hx1x0) rfl (by omega) (by first | omega | (simp only [List.length_cons, List.length_nil, List.length_append]; omega)) (by exact ⟨hh1b, hh1.2.2⟩) hr166) ?_)
 rintro _ w167 ⟨A170, c171, rfl, HQ168, hk172⟩
 have H169 := bk163 _ _ HQ168
 have hb173 := H169.rowC (i := 0) rfl
 replace hk172 : r165.length ≤ r149.length + 10 + 52 * p1.xPairs.ls.length := hk172
 have H174 := H169.pk [1, 0, 2, 3]
 refine ⟨.inr ⟨_, H174⟩, ?_⟩
 refine GX.take (v := .slice A170 r165.length c171) (rs := []) 13 rfl (by kernel_rfl) (fun _ _ => Yl.assign rfl) (GX.done (by kernel_rfl) (Fin.then (rt (rs ?_))))
 have H175 := H174.pk [1]
 obtain rfl : _ = r165 := hr.symm.trans (et (bnd_of hr32) (et (bnd_of hr150) (bnd_of hr166)))
 exact ⟨A170, c171, rfl, H175, (by first | omega | (simp only [List.length_cons, List.length_nil, List.length_append]; omega))⟩
 refine GY.do 8 rfl (by kernel_rfl) (Do.newRow (cs := [.string ⟨List.toArray p1.xValue⟩]) (t := 9) (sz := 1) (m := 1) H25 rfl rfl (fun _ => by kernel_rfl) rfl (by decide) ?_)
 intro A176 w177 H178
 replace H178 := Own.reh (y := row A176 1 1 (List.flatMap eS ([p1.xValue])) 9 1) rfl H178
 have H179 := H178.pk [1, 0, 2]
 refine ⟨.inr ⟨_, H179⟩, ?_⟩
 obtain ⟨r185, hr186⟩ : ∃ q, wire_truth p1.xFound = q := ⟨_, rfl⟩
 obtain ⟨D180, HP181, ro182, bk183, rr184⟩ := Own.enter0 H179
 refine GX.do 3 rfl (by kernel_rfl) (Do.call Tryz.call55 rfl (wire_truth_ok _ _ p1.xFound r185 HP181 hr186) ?_)
 rintro _ w187 ⟨rfl, HQ188⟩
 have H189 := bk183 _ _ HQ188
 refine ⟨.inr ⟨_, H189⟩, ?_⟩
 refine GX.do 4 rfl (by kernel_rfl) (Do.newRow (cs := [.int .u8 ((r185.toNat : Nat) : Int)]) (t := 5) (sz := 1) (m := 1) H189 rfl rfl (fun _ => by kernel_rfl) rfl (by decide) ?_)
 intro A190 w191 H192
 replace H192 := Own.reh (y := row A190 1 1 (List.flatMap eB ([r185])) 5 1) rfl H192
 have H193 := H192.pk [1, 0, 2, 3]
 refine ⟨.inr ⟨_, H193⟩, ?_⟩
 have H194 := H193.pk [3, 0, 1, 2]
 refine GX.do 5 rfl (by kernel_rfl) (Do.appendW (k := l0.length) (m := 1) (El31) H194 rfl rfl (src_of Tryz.underlying31 (H194.rds (i := 2) rfl) (flat_one eB_one ([r185]))) rfl (by omega) (s := List.length (l0 ++ [r185])) (by first | omega | (simp only [List.length_append, List.length_cons, List.length_nil] <;> omega)) (List.flatMap_append).symm ?_)
 intro A195 c196 w197 H198
 have hl199 : List.length (l0 ++ [r185]) = l0.length + 1 := by simp only [List.length_append, List.length_cons, List.length_nil]
 have H200 := H198.pk [1, 0, 2, 3]
 refine ⟨.inr ⟨_, H200⟩, ?_⟩
 have H201 := H200.pk [1, 0, 2, 3]
 obtain ⟨r207, hr208⟩ : ∃ q, wire_texts (l0 ++ [r185]) ([p1.xValue]) = q := ⟨_, rfl⟩
 obtain ⟨D202, HP203, ro204, bk205, rr206⟩ := Own.enter1 H201
 refine GX.do 9 rfl (by kernel_rfl) (Do.call Tryz.call56 rfl (wire_texts_ok _ _ A195 (List.length (l0 ++ [r185])) c196 (l0 ++ [r185]) A176 1 1 ([p1.xValue]) r207 HP203 rfl (by first | omega | (simp only [List.length_append, List.length_cons, List.length_nil, List.length_take, List.length_drop, List.length_set]; omega)) (rr206 _ 2 _ rfl row_rds) rfl (by simp) (by first | omega | (simp only [List.length_cons, List.length_nil, List.length_append]; omega)) (by refine ⟨Nat.le_of_ble_eq_true rfl, ?_⟩; simp only [List.mem_cons, List.not_mem_nil, or_false, forall_eq_or_imp, forall_eq]; omega) hr208) ?_)
 rintro _ w209 ⟨A212, c213, rfl, HQ210, hk214⟩
 have H211 := bk205 _ _ HQ210
 have hb215 := H211.rowC (i := 0) rfl
 replace hk214 : r207.length ≤ List.length (l0 ++ [r185]) + 26 * 1 := hk214
 have H216 := H211.pk [1, 0, 2, 3]
 refine ⟨.inr ⟨_, H216⟩, ?_⟩
 have H217 := H216.pk [1, 0, 2, 3]
 obtain ⟨r223, hr224⟩ : ∃ q, wire_list_api_Pair r207 p1.xPairs.ls = q := ⟨_, rfl⟩
 obtain ⟨D218, HP219, ro220, bk221, rr222⟩ := Own.enter1 H217
 refine GX.do 12 rfl (by kernel_rfl) (Do.call Tryz.call100 rfl (wire_list_api_Pair_ok _ _ A212 r207.length c213 r207 A1x0 p1.xPairs.ls.length c1x0 p1.xPairs.ls r223 HP219 rfl (by omega) (ro220 _ hx1x0) rfl (by omega) (by first | omega | (simp only [List.length_cons, List.length_nil, List.length_append]; omega)) (by exact ⟨hh1b, hh1.2.2⟩) hr224) ?_)
 rintro _ w225 ⟨A228, c229, rfl, HQ226, hk230⟩
 have H227 := bk221 _ _ HQ226
 have hb231 := H227.rowC (i := 0) rfl
 replace hk230 : r223.length ≤ r207.length + 10 + 52 * p1.xPairs.ls.length := hk230
 have H232 := H227.pk [1, 0, 2, 3]
 refine ⟨.inr ⟨_, H232⟩, ?_⟩
 refine GX.take (v := .slice A228 r223.length c229) (rs := []) 13 rfl (by kernel_rfl) (fun _ _ => Yl.assign rfl) (GX.done (by kernel_rfl) (Fin.then (rt (rs ?_))))
 have H233 := H232.pk [1]
 obtain rfl : _ = r223 := hr.symm.trans (et (bnd_of hr186) (et (bnd_of hr208) (bnd_of hr224)))
 exact ⟨A228, c229, rfl, H233, (by first | omega | (simp only [List.length_cons, List.length_nil, List.length_append]; omega))⟩
def wire_list_api_Result_L0 : List ResultT → List UInt8 → (List UInt8)
  | [], l45 => l45
  | x59 :: q47, l45 => bnd (wire_writeResult l45 (ResultT.mk x59.xFound x59.xValue (Ll.mk x59.xPairs.ls))) fun yr76 => wire_list_api_Result_L0 q47 yr76
def wire_list_api_Result (l0 : List UInt8) (l1 : List ResultT) : (List UInt8) :=
 bnd (octet_Num l1.length) fun yr26 => bnd (wire_list_api_Result_L0 l1 (l0 ++ yr26)) fun sLrbL => sLrbL
set_option maxRecDepth 100000 in
theorem wire_list_api_Result_ok (w : World) (D : Nat → Prop) (A0 : Option Addr) (n0 c0 : Nat) (l0 : List UInt8) (A1 : Option Addr) (n1 c1 : Nat) (d1 : List ResultD) (l1 : List ResultT) (r0 : List UInt8) (H : Own w D w [row A0 n0 c0 (List.flatMap eB l0) 5 1]) (hn0 : n0 = l0.length) (hl0 : l0.length * 1 ≤ 211106232532992) (hd1 : List.map ResultD.abs d1 = l1) (hx1 : Ro w D fun w' => Rds w' 3 A1 n1 (List.flatMap ResultD.cells d1)) (hm1 : ∀ x ∈ d1, Ro w D (fun w' => Rds w' 2 x.xPairs.A x.xPairs.ls.length (List.flatMap PairD.cells x.xPairs.ls)) ∧ (x.xPairs.ls.length ≤ x.xPairs.c ∧ x.xPairs.ls.length ≤ 9223372036854775807)) (hn1 : n1 = l1.length) (hl1 : l1.length * 48 ≤ 211106232532992) (hh0 : l0.length ≤ 1000000000) (hh1 : (l1.length ≤ 24 ∧ ∀ x ∈ l1, x.xValue.length ≤ 16 ∧ x.xPairs.ls.length ≤ 4 ∧ ∀ q ∈ x.xPairs.ls, q.xKey.length ≤ 12 ∧ q.xValue.length ≤ 16)) (hr : wire_list_api_Result l0 l1 = r0) :
    Calls Tryz.prog 59 #[.slice A0 n0 c0, .slice A1 n1 c1, .func (.func 60) #[] #[]] w (Ret fun v w' => ∃ (B0 : Option Addr) (b0 : Nat), v = .slice B0 r0.length b0 ∧ Own w D w' [row B0 r0.length b0 (List.flatMap eB r0) 5 1] ∧ (r0.length ≤ l0.length + 10 + 245 * l1.length)) := by
 subst hn0 hn1
 have hdl1 := abs_len hd1
 have hc0 := H.rowC (i := 0) rfl
 have hh1a := hh1.1
 refine Calls.body (args := [.slice A0 l0.length c0, .slice A1 l1.length c1, .func (.func 60) #[] #[]]) Tryz.func59 rfl rfl rfl ?_
 show Wp _ _ _ [(0, .slice A0 l0.length c0), (1, .slice A1 l1.length c1), (2, .func (.func 60) #[] #[])] _ _
 refine sr (Ar rfl (Mz rfl (Mz rfl (Kz (.int .i64 ((l1.length : Nat) : Int)) (fw (.int .u64 ((l1.length : Nat) : Int)) (Yl.int (e := IntKind.u64.wrap ((l1.length : Nat) : Int)) yk (IntWalk.u64_in _ (by omega))) ?_)))))
 obtain ⟨r26, hr27⟩ : ∃ q, octet_Num l1.length = q := ⟨_, rfl⟩
 obtain ⟨D21, HP22, ro23, bk24, rr25⟩ := Own.enter0 H
 refine cl Tryz.call51 (octet_Num_ok _ _ l1.length r26 HP22 (by omega) hr27) ?_
 rintro _ w28 ⟨A31, c32, rfl, HQ29, hk33, hk34⟩
 have H30 := bk24 _ _ HQ29
 have hb35 := H30.rowC (i := 0) rfl
 replace hk33 : 1 ≤ r26.length ∧ r26.length ≤ 10 := hk33
 replace hk34 : l1.length ≥ 128 ∨ r26.length = 1 := hk34
 have H36 := H30.pk [1, 0]
 refine WL.do rfl (Do.appendW (k := l0.length) (m := r26.length) (El31) H36 rfl rfl (src_of Tryz.underlying31 (H36.rds (i := 1) rfl) (flat_one eB_one r26)) rfl (by omega) (s := List.length (l0 ++ r26)) (by first | omega | (simp only [List.length_append, List.length_cons, List.length_nil] <;> omega)) (List.flatMap_append).symm ?_)
 intro A37 c38 w39 H40
 have hl41 : List.length (l0 ++ r26) = l0.length + r26.length := by simp only [List.length_append, List.length_cons, List.length_nil]
 refine An rfl (Wp.seq (Wp.seq ?_))
 have H42 := H40.pk [0]
 refine Wp.region (Mz rfl (Kz (.int .i64 ((l1.length : Nat) : Int)) (Mn rfl (bo ?_))))
 have H48 := H42.pk [0]
 obtain ⟨I52, hI53⟩ : ∃ q : ((Option Addr) × Nat × (List UInt8) × Nat) → World → Prop, q = fun (i : (Option Addr) × Nat × (List UInt8) × Nat) w' => Own w D w' [row i.1 i.2.2.1.length i.2.1 (List.flatMap eB i.2.2.1) 5 1] ∧ (i.2.2.2 ≤ l1.length ∧ ((i.2.2.1.length : Nat) : Int) ≤ ((l0.length : Nat) : Int) + 10 + 245 * ((i.2.2.2 : Nat) : Int) ∧ wire_list_api_Result_L0 l1 (l0 ++ r26) = wire_list_api_Result_L0 (List.drop i.2.2.2 l1) i.2.2.1) := ⟨_, rfl⟩
 have dm54 : ∀ {A43 : Option Addr} {c44 : Nat} {l45 : List UInt8} {k46 : Nat} {w' : World}, I52 (A43, c44, l45, k46) w' ↔ Own w D w' [row A43 l45.length c44 (List.flatMap eB l45) 5 1] ∧ k46 ≤ l1.length ∧ ((l45.length : Nat) : Int) ≤ ((l0.length : Nat) : Int) + 10 + 245 * ((k46 : Nat) : Int) ∧ wire_list_api_Result_L0 l1 (l0 ++ r26) = wire_list_api_Result_L0 (List.drop k46 l1) l45 := by intros; subst hI53; exact Iff.rfl
 refine Wp.loop (fun i : (Option Addr) × Nat × (List UInt8) × Nat => [(0, .slice i.1 i.2.2.1.length i.2.1), (17, .int .i64 ((i.2.2.2 : Nat) : Int)), (16, .int .i64 ((l1.length : Nat) : Int)), (15, .slice A1 l1.length c1), (6, .slice none 0 0), (2, .func (.func 60) #[] #[])]) I52 (fun i => l1.length - i.2.2.2) (A37, c38, (l0 ++ r26), 0) ⟨rfl, rfl, rfl, rfl, rfl, rfl, trivial⟩ (dm54.2 ⟨H48, by omega, by omega, rfl⟩) ?_
 rintro ⟨A43, c44, l45, k46⟩ w49 hf51
 show Wp _ _ _ [(0, .slice A43 l45.length c44), (17, .int .i64 ((k46 : Nat) : Int)), (16, .int .i64 ((l1.length : Nat) : Int)), (15, .slice A1 l1.length c1), (6, .slice none 0 0), (2, .func (.func 60) #[] #[])] _ _
 obtain ⟨H50, hi56, hi57, hq55⟩ := dm54.1 hf51
 refine sr (Kz (.bool (decide (((k46 : Nat) : Int) < ((l1.length : Nat) : Int)))) (nt (Wp.seq ?_)))
 by_cases h58 : ((k46 : Nat) : Int) < ((l1.length : Nat) : Int)
 obtain ⟨x59, hx60⟩ := rds_at (ls := d1) (i := k46) ResultD.len (by decide) (H50.ro hx1) (by first | omega | (simp; done) | (simp; omega))
 have hX61 := abs_at hd1 hx60
 have hb62 := (hm1 _ (List.mem_of_getElem? hx60)).2
 have hz63 : x59.xValue.length ≤ 16 ∧ x59.xPairs.ls.length ≤ 4 ∧ ∀ q ∈ x59.xPairs.ls, q.xKey.length ≤ 12 ∧ q.xValue.length ≤ 16 := hh1.2 _ (List.mem_of_getElem? hX61)
 have hz63a := hz63.1
 have hz63b := hz63.2.1
 have hd64 := drop_at hX61
 refine jT (dT h58) (sk (Wp.seq (bo (sr (fw (.pointer (some ⟨ab A1, ao A1 + k46 * 3, none⟩)) (Yl.indexAddr (El26) rfl rfl ((H50.ro hx1).addr (i := k46) (by omega)) (by omega)) (fw (.agg (ResultD.cells x59).toArray) (Yl.load rfl (Lds.agg (cs := (ResultD.cells x59)) Tryz.isAgg84 Tryz.sizeOf84 ((H50.ro hx1).elem ResultD.len hx60 (by decide)))) ?_))))))
 refine npw [.bool false, .string ⟨List.toArray ([])⟩, .slice none 0 0] 84 H50 ?_
 intro g65 w66 H67
 refine sto (ResultD.cells x59) 0 H67 Tryz.sizeOf84 ?_
 intro w68 H69
 refine nt (Wp.region (Mz rfl (Mz rfl (La (ResultD.cells x59) H69 0 Tryz.isAgg84 Tryz.sizeOf84 ?_))))
 have H70 := H69.pk [1, 0]
 obtain ⟨r76, hr77⟩ : ∃ q, wire_writeResult l45 (ResultT.mk x59.xFound x59.xValue (Ll.mk x59.xPairs.ls)) = q := ⟨_, rfl⟩
 obtain ⟨D71, HP72, ro73, bk74, rr75⟩ := Own.enter1 H70
 refine WL.do rfl (Do.callV Tryz.call60 rfl rfl (wire_writeResult_ok _ _ A43 l45.length c44 l45 (ResultT.mk x59.xFound x59.xValue (Ll.mk x59.xPairs.ls)) x59.xPairs.A x59.xPairs.ls.length x59.xPairs.c r76 HP72 rfl (by omega) rfl (ro73 _ (hm1 _ (List.mem_of_getElem? hx60)).1) (show x59.xPairs.ls.length ≤ x59.xPairs.c ∧ x59.xPairs.ls.length ≤ 9223372036854775807 from by omega) (by first | omega | (simp only [List.length_cons, List.length_nil, List.length_append]; omega)) (by assumption) hr77) ?_)
 rintro _ w78 ⟨A81, c82, rfl, HQ79, hk83⟩
 have H80 := bk74 _ _ HQ79
 have hb84 := H80.rowC (i := 0) rfl
 replace hk83 : r76.length ≤ l45.length + 245 := hk83
 refine Az rfl (WL.nil (bN (Fin.then (Wp.region (fw (.int .i64 ((k46 + 1 : Nat) : Int)) (Yl.int (e := IntKind.i64.wrap (((k46 : Nat) : Int) + 1)) yk (by rw [IntWalk.i64_in _ (by omega)]; omega)) (Mz rfl (WL.nil ?_)))))))
 have H85 := H80.pk [0]
 exact Fin.round (A81, c82, r76, k46 + 1) ⟨rfl, rfl, rfl, rfl, rfl, rfl, trivial⟩ (dm54.2 ⟨H85, by omega, by omega, et (hq55) (et (congrArg (fun q => wire_list_api_Result_L0 q l45) hd64) (bnd_of hr77))⟩) (by show l1.length - (k46 + 1) < l1.length - k46; omega)
 refine jF (dF h58) (Wp.exit (Fin.thenX ?_))
 have hL86 : wire_list_api_Result_L0 l1 (l0 ++ r26) = l45 := et (hq55) (et (congrArg (fun q => wire_list_api_Result_L0 q l45) (drop_end (ls := l1) (i := k46) (by omega))) rfl)
 refine Fin.thenX (Fin.blockX (Fin.then (sr (Mz rfl (An rfl (rt (rs ?_)))))))
 have H87 := H50.pk [0]
 obtain rfl : _ = l45 := hr.symm.trans (et (bnd_of hr27) (bnd_of hL86))
 exact ⟨A43, c44, rfl, H87, (by first | omega | (simp only [List.length_cons, List.length_nil, List.length_append]; omega))⟩
end Go.Proofs.YtccjclalngabhaaGreat
