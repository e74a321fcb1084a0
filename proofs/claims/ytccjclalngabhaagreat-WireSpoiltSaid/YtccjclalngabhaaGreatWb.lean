/-
 wire: which messages may be.
-/
import Derived.Test.YtccjclalngabhaaGreatWa
namespace Go.Proofs.YtccjclalngabhaaGreat
open Go.RowKit
set_option linter.unusedVariables false
set_option linter.unusedSectionVars false
set_option linter.unusedSimpArgs false
theorem El48 : Elem Tryz.prog 48 93 1 8 := elem_of (z := .int .i64 0) Tryz.underlying48 (by kernel_rfl) rfl (by decide)
structure layoutD where
 xfrom : Int
 xto : Int
 xfields : Sv Int
def layoutD.cells (x : layoutD) : List Value := [.int .i64 x.xfrom, .int .i64 x.xto, .slice x.xfields.A x.xfields.ls.length x.xfields.c]
instance : Bk layoutD := ⟨fun x _ => bk x.xfrom + (bk x.xto + (bk x.xfields + (0)))⟩
theorem layoutD.len : ∀ x, (layoutD.cells x).length = 3 := fun _ => rfl
theorem layoutD.one : ∀ x, ∀ u ∈ layoutD.cells x, u.oneCell' = true := fun x u hu => by
 simp only [layoutD.cells, List.mem_cons, List.not_mem_nil, or_false] at hu
 rcases hu with rfl | rfl | rfl <;> rfl
def layoutD.Ok (w : World) (x : layoutD) : Prop := ((-9223372036854775808) ≤ x.xfrom ∧ x.xfrom ≤ 9223372036854775807) ∧ ((-9223372036854775808) ≤ x.xto ∧ x.xto ≤ 9223372036854775807) ∧ (SvOk w 1 8 (eI .i64) (fun n => (-9223372036854775808) ≤ n ∧ n ≤ 9223372036854775807) x.xfields)
instance : Inhabited layoutD := ⟨⟨default, default, default⟩⟩
structure layoutT where
 xfrom : Int
 xto : Int
 xfields : Ll Int
instance : Inhabited layoutT := ⟨⟨default, default, default⟩⟩
def layoutD.abs (x : layoutD) : layoutT := ⟨x.xfrom, x.xto, ⟨x.xfields.ls⟩⟩
def layoutD.own (x : layoutD) : List HP := [row x.xfields.A x.xfields.ls.length x.xfields.c (List.flatMap (eI .i64) x.xfields.ls) 93 1]
def wire_layoutOf (p0 : Int) : layoutT × Bool :=
 if p0 ≤ 0 then (layoutT.mk 0 0 (Ll.mk ([])), false) else if p0 ≥ 15 then (layoutT.mk 0 0 (Ll.mk ([])), false) else if ((Int.toNat p0 : Nat) : Int) = 1 then (layoutT.mk 2 0 (Ll.mk ([0, 1, 7])), true) else if ((Int.toNat p0 : Nat) : Int) = 2 then (layoutT.mk 0 2 (Ll.mk ([0, 1, 2, 3])), true) else if ((Int.toNat p0 : Nat) : Int) = 3 then (layoutT.mk 0 1 (Ll.mk ([4, 5, 6, 7])), true) else if ((Int.toNat p0 : Nat) : Int) = 4 then (layoutT.mk 1 0 (Ll.mk ([4, 2, 3])), true) else if ((Int.toNat p0 : Nat) : Int) = 5 then (layoutT.mk 0 1 (Ll.mk ([4, 8])), true) else if ((Int.toNat p0 : Nat) : Int) = 6 then (layoutT.mk 1 0 (Ll.mk ([4])), true) else if ((Int.toNat p0 : Nat) : Int) = 7 then (layoutT.mk 1 0 (Ll.mk ([4])), true) else if ((Int.toNat p0 : Nat) : Int) = 8 then (layoutT.mk 0 1 (Ll.mk ([9, 6, 10, 11])), true) else if ((Int.toNat p0 : Nat) : Int) = 9 then (layoutT.mk 1 0 (Ll.mk ([9])), true) else if ((Int.toNat p0 : Nat) : Int) = 10 then (layoutT.mk 0 1 (Ll.mk ([9, 10, 12, 8, 13])), true) else if ((Int.toNat p0 : Nat) : Int) = 11 then (layoutT.mk 1 1 (Ll.mk ([10, 14, 15, 13, 7])), true) else if ((Int.toNat p0 : Nat) : Int) = 12 then (layoutT.mk 1 1 (Ll.mk ([10, 14, 15])), true) else if ((Int.toNat p0 : Nat) : Int) = 13 then (layoutT.mk 1 0 (Ll.mk ([10])), true) else (layoutT.mk 1 0 (Ll.mk ([10])), true)
set_option maxRecDepth 100000 in
theorem wire_layoutOf_ok (w : World) (D : Nat → Prop) (p0 : Int) (r0 : layoutT) (r1 : Bool) (H : Own w D w [])  (hr : wire_layoutOf p0 = (r0, r1)) :
    Calls Tryz.prog 19 #[.int .i64 p0] w (Ret fun v w' => ∃ (B0x0 : Option Addr) (b0x0 : Nat), v = .tuple #[.agg #[.int .i64 r0.xfrom, .int .i64 r0.xto, .slice B0x0 r0.xfields.ls.length b0x0], .bool r1] ∧ Own w D w' [row B0x0 r0.xfields.ls.length b0x0 (List.flatMap (eI .i64) r0.xfields.ls) 93 1] ∧ (r0.xfields.ls.length ≤ 5)) := by
 refine Calls.body (args := [.int .i64 p0]) Tryz.func19 rfl rfl rfl ?_
 show Wp _ _ _ [(0, .int .i64 p0)] _ _
 refine sr ?_
 refine npw [.int .i64 0, .int .i64 0, .slice none 0 0] 50 H ?_
 intro g21 w22 H23
 refine Ar rfl ?_
 refine nrw [.int .i64 0, .int .i64 1, .int .i64 7] 93 1 3 H23 ?_
 intro A24 w25 H26
 replace H26 := Own.reh (y := row A24 3 3 (List.flatMap (eI .i64) ([0, 1, 7])) 93 1) rfl H26
 refine Kz (.agg #[.int .i64 2, .int .i64 0, .slice A24 3 3]) ?_
 refine nrw [.int .i64 0, .int .i64 1, .int .i64 2, .int .i64 3] 93 1 4 H26 ?_
 intro A27 w28 H29
 replace H29 := Own.reh (y := row A27 4 4 (List.flatMap (eI .i64) ([0, 1, 2, 3])) 93 1) rfl H29
 refine Kz (.agg #[.int .i64 0, .int .i64 2, .slice A27 4 4]) ?_
 refine nrw [.int .i64 4, .int .i64 5, .int .i64 6, .int .i64 7] 93 1 4 H29 ?_
 intro A30 w31 H32
 replace H32 := Own.reh (y := row A30 4 4 (List.flatMap (eI .i64) ([4, 5, 6, 7])) 93 1) rfl H32
 refine Kz (.agg #[.int .i64 0, .int .i64 1, .slice A30 4 4]) ?_
 refine nrw [.int .i64 4, .int .i64 2, .int .i64 3] 93 1 3 H32 ?_
 intro A33 w34 H35
 replace H35 := Own.reh (y := row A33 3 3 (List.flatMap (eI .i64) ([4, 2, 3])) 93 1) rfl H35
 refine Kz (.agg #[.int .i64 1, .int .i64 0, .slice A33 3 3]) ?_
 refine nrw [.int .i64 4, .int .i64 8] 93 1 2 H35 ?_
 intro A36 w37 H38
 replace H38 := Own.reh (y := row A36 2 2 (List.flatMap (eI .i64) ([4, 8])) 93 1) rfl H38
 refine Kz (.agg #[.int .i64 0, .int .i64 1, .slice A36 2 2]) ?_
 refine nrw [.int .i64 4] 93 1 1 H38 ?_
 intro A39 w40 H41
 replace H41 := Own.reh (y := row A39 1 1 (List.flatMap (eI .i64) ([4])) 93 1) rfl H41
 refine Kz (.agg #[.int .i64 1, .int .i64 0, .slice A39 1 1]) ?_
 refine nrw [.int .i64 4] 93 1 1 H41 ?_
 intro A42 w43 H44
 replace H44 := Own.reh (y := row A42 1 1 (List.flatMap (eI .i64) ([4])) 93 1) rfl H44
 refine Kz (.agg #[.int .i64 1, .int .i64 0, .slice A42 1 1]) ?_
 refine nrw [.int .i64 9, .int .i64 6, .int .i64 10, .int .i64 11] 93 1 4 H44 ?_
 intro A45 w46 H47
 replace H47 := Own.reh (y := row A45 4 4 (List.flatMap (eI .i64) ([9, 6, 10, 11])) 93 1) rfl H47
 refine Kz (.agg #[.int .i64 0, .int .i64 1, .slice A45 4 4]) ?_
 refine nrw [.int .i64 9] 93 1 1 H47 ?_
 intro A48 w49 H50
 replace H50 := Own.reh (y := row A48 1 1 (List.flatMap (eI .i64) ([9])) 93 1) rfl H50
 refine Kz (.agg #[.int .i64 1, .int .i64 0, .slice A48 1 1]) ?_
 refine nrw [.int .i64 9, .int .i64 10, .int .i64 12, .int .i64 8, .int .i64 13] 93 1 5 H50 ?_
 intro A51 w52 H53
 replace H53 := Own.reh (y := row A51 5 5 (List.flatMap (eI .i64) ([9, 10, 12, 8, 13])) 93 1) rfl H53
 refine Kz (.agg #[.int .i64 0, .int .i64 1, .slice A51 5 5]) ?_
 refine nrw [.int .i64 10, .int .i64 14, .int .i64 15, .int .i64 13, .int .i64 7] 93 1 5 H53 ?_
 intro A54 w55 H56
 replace H56 := Own.reh (y := row A54 5 5 (List.flatMap (eI .i64) ([10, 14, 15, 13, 7])) 93 1) rfl H56
 refine Kz (.agg #[.int .i64 1, .int .i64 1, .slice A54 5 5]) ?_
 refine nrw [.int .i64 10, .int .i64 14, .int .i64 15] 93 1 3 H56 ?_
 intro A57 w58 H59
 replace H59 := Own.reh (y := row A57 3 3 (List.flatMap (eI .i64) ([10, 14, 15])) 93 1) rfl H59
 refine Kz (.agg #[.int .i64 1, .int .i64 1, .slice A57 3 3]) ?_
 refine nrw [.int .i64 10] 93 1 1 H59 ?_
 intro A60 w61 H62
 replace H62 := Own.reh (y := row A60 1 1 (List.flatMap (eI .i64) ([10])) 93 1) rfl H62
 refine Kz (.agg #[.int .i64 1, .int .i64 0, .slice A60 1 1]) ?_
 refine nrw [.int .i64 10] 93 1 1 H62 ?_
 intro A63 w64 H65
 replace H65 := Own.reh (y := row A63 1 1 (List.flatMap (eI .i64) ([10])) 93 1) rfl H65
 refine Kz (.agg #[.int .i64 1, .int .i64 0, .slice A63 1 1]) (Kz (.agg #[.int .i64 0, .int .i64 0, .slice none 0 0, .int .i64 2, .int .i64 0, .slice A24 3 3, .int .i64 0, .int .i64 2, .slice A27 4 4, .int .i64 0, .int .i64 1, .slice A30 4 4, .int .i64 1, .int .i64 0, .slice A33 3 3, .int .i64 0, .int .i64 1, .slice A36 2 2, .int .i64 1, .int .i64 0, .slice A39 1 1, .int .i64 1, .int .i64 0, .slice A42 1 1, .int .i64 0, .int .i64 1, .slice A45 4 4, .int .i64 1, .int .i64 0, .slice A48 1 1, .int .i64 0, .int .i64 1, .slice A51 5 5, .int .i64 1, .int .i64 1, .slice A54 5 5, .int .i64 1, .int .i64 1, .slice A57 3 3, .int .i64 1, .int .i64 0, .slice A60 1 1, .int .i64 1, .int .i64 0, .slice A63 1 1]) ?_)
 refine npw [.int .i64 0, .int .i64 0, .slice none 0 0, .int .i64 0, .int .i64 0, .slice none 0 0, .int .i64 0, .int .i64 0, .slice none 0 0, .int .i64 0, .int .i64 0, .slice none 0 0, .int .i64 0, .int .i64 0, .slice none 0 0, .int .i64 0, .int .i64 0, .slice none 0 0, .int .i64 0, .int .i64 0, .slice none 0 0, .int .i64 0, .int .i64 0, .slice none 0 0, .int .i64 0, .int .i64 0, .slice none 0 0, .int .i64 0, .int .i64 0, .slice none 0 0, .int .i64 0, .int .i64 0, .slice none 0 0, .int .i64 0, .int .i64 0, .slice none 0 0, .int .i64 0, .int .i64 0, .slice none 0 0, .int .i64 0, .int .i64 0, .slice none 0 0, .int .i64 0, .int .i64 0, .slice none 0 0] 94 H65 ?_
 intro g66 w67 H68
 refine sto [.int .i64 0, .int .i64 0, .slice none 0 0, .int .i64 2, .int .i64 0, .slice A24 3 3, .int .i64 0, .int .i64 2, .slice A27 4 4, .int .i64 0, .int .i64 1, .slice A30 4 4, .int .i64 1, .int .i64 0, .slice A33 3 3, .int .i64 0, .int .i64 1, .slice A36 2 2, .int .i64 1, .int .i64 0, .slice A39 1 1, .int .i64 1, .int .i64 0, .slice A42 1 1, .int .i64 0, .int .i64 1, .slice A45 4 4, .int .i64 1, .int .i64 0, .slice A48 1 1, .int .i64 0, .int .i64 1, .slice A51 5 5, .int .i64 1, .int .i64 1, .slice A54 5 5, .int .i64 1, .int .i64 1, .slice A57 3 3, .int .i64 1, .int .i64 0, .slice A60 1 1, .int .i64 1, .int .i64 0, .slice A63 1 1] 0 H68 Tryz.sizeOf94 ?_
 intro w69 H70
 refine nt (Wp.seq (sr (Mz rfl (Kz (.bool (decide (p0 ≤ 0))) (Mz rfl ?_)))))
 by_cases h71 : p0 ≤ 0
 refine Sz (dT h71) (Sz (dT h71) (fw (.bool true) (Yl.pickT rfl (dT h71) rfl) (nt (jt (sr (Kz (.agg #[.int .i64 0, .int .i64 0, .slice none 0 0]) ?_))))))
 have H72 := H70.pk [15, 0, 1, 2, 3, 4, 5, 6, 7, 8, 9, 10, 11, 12, 13, 14]
 refine sto [.int .i64 0, .int .i64 0, .slice none 0 0] 0 H72 Tryz.sizeOf50 ?_
 intro w73 H74
 refine An rfl (rt (tR (Fin.res (resN (vs := [.agg #[.int .i64 0, .int .i64 0, .slice none 0 0], .bool false]) rfl (ResV.cell rfl (Lds.agg (cs := [.int .i64 0, .int .i64 0, .slice none 0 0]) Tryz.isAgg50 Tryz.sizeOf50 ((H74.cls (i := 0) rfl).lit (k := 0) (m := 3) rfl)) (ResV.tmp rfl ResV.nil)) (Nat.le_of_ble_eq_true rfl)) ?_)))
 have H75 : Own w D w73 [row none 0 0 (List.flatMap (eI .i64) ([])) 93 1, blk g21 [.int .i64 0, .int .i64 0, .slice none 0 0] 50, blk g66 [.int .i64 0, .int .i64 0, .slice none 0 0, .int .i64 2, .int .i64 0, .slice A24 3 3, .int .i64 0, .int .i64 2, .slice A27 4 4, .int .i64 0, .int .i64 1, .slice A30 4 4, .int .i64 1, .int .i64 0, .slice A33 3 3, .int .i64 0, .int .i64 1, .slice A36 2 2, .int .i64 1, .int .i64 0, .slice A39 1 1, .int .i64 1, .int .i64 0, .slice A42 1 1, .int .i64 0, .int .i64 1, .slice A45 4 4, .int .i64 1, .int .i64 0, .slice A48 1 1, .int .i64 0, .int .i64 1, .slice A51 5 5, .int .i64 1, .int .i64 1, .slice A54 5 5, .int .i64 1, .int .i64 1, .slice A57 3 3, .int .i64 1, .int .i64 0, .slice A60 1 1, .int .i64 1, .int .i64 0, .slice A63 1 1] 94, row A63 1 1 (List.flatMap (eI .i64) ([10])) 93 1, row A60 1 1 (List.flatMap (eI .i64) ([10])) 93 1, row A57 3 3 (List.flatMap (eI .i64) ([10, 14, 15])) 93 1, row A54 5 5 (List.flatMap (eI .i64) ([10, 14, 15, 13, 7])) 93 1, row A51 5 5 (List.flatMap (eI .i64) ([9, 10, 12, 8, 13])) 93 1, row A48 1 1 (List.flatMap (eI .i64) ([9])) 93 1, row A45 4 4 (List.flatMap (eI .i64) ([9, 6, 10, 11])) 93 1, row A42 1 1 (List.flatMap (eI .i64) ([4])) 93 1, row A39 1 1 (List.flatMap (eI .i64) ([4])) 93 1, row A36 2 2 (List.flatMap (eI .i64) ([4, 8])) 93 1, row A33 3 3 (List.flatMap (eI .i64) ([4, 2, 3])) 93 1, row A30 4 4 (List.flatMap (eI .i64) ([4, 5, 6, 7])) 93 1, row A27 4 4 (List.flatMap (eI .i64) ([0, 1, 2, 3])) 93 1, row A24 3 3 (List.flatMap (eI .i64) ([0, 1, 7])) 93 1] := H74.free (row_nil 93 1)
 have H76 := H75.pk [0]
 have e : wire_layoutOf p0 = (layoutT.mk 0 0 (Ll.mk ([])), false) := ip h71
 obtain ⟨rfl, rfl⟩ := pj2 (e.symm.trans hr)
 exact ⟨none, 0, rfl, H76, (by first | omega | exact Nat.le_of_ble_eq_true rfl)⟩
 refine gw (.int .i64 p0) (dF h71) (Yl.move rfl) (Gz (.bool (decide (p0 ≥ 15))) (dF h71) (fw (.bool (decide (p0 ≥ 15))) (Yl.pickF rfl (dF h71) rfl) (nt ?_)))
 by_cases h77 : p0 ≥ 15
 refine jT (dT h77) (sr (Kz (.agg #[.int .i64 0, .int .i64 0, .slice none 0 0]) ?_))
 have H78 := H70.pk [15, 0, 1, 2, 3, 4, 5, 6, 7, 8, 9, 10, 11, 12, 13, 14]
 refine sto [.int .i64 0, .int .i64 0, .slice none 0 0] 0 H78 Tryz.sizeOf50 ?_
 intro w79 H80
 refine An rfl (rt (tR (Fin.res (resN (vs := [.agg #[.int .i64 0, .int .i64 0, .slice none 0 0], .bool false]) rfl (ResV.cell rfl (Lds.agg (cs := [.int .i64 0, .int .i64 0, .slice none 0 0]) Tryz.isAgg50 Tryz.sizeOf50 ((H80.cls (i := 0) rfl).lit (k := 0) (m := 3) rfl)) (ResV.tmp rfl ResV.nil)) (Nat.le_of_ble_eq_true rfl)) ?_)))
 have H81 : Own w D w79 [row none 0 0 (List.flatMap (eI .i64) ([])) 93 1, blk g21 [.int .i64 0, .int .i64 0, .slice none 0 0] 50, blk g66 [.int .i64 0, .int .i64 0, .slice none 0 0, .int .i64 2, .int .i64 0, .slice A24 3 3, .int .i64 0, .int .i64 2, .slice A27 4 4, .int .i64 0, .int .i64 1, .slice A30 4 4, .int .i64 1, .int .i64 0, .slice A33 3 3, .int .i64 0, .int .i64 1, .slice A36 2 2, .int .i64 1, .int .i64 0, .slice A39 1 1, .int .i64 1, .int .i64 0, .slice A42 1 1, .int .i64 0, .int .i64 1, .slice A45 4 4, .int .i64 1, .int .i64 0, .slice A48 1 1, .int .i64 0, .int .i64 1, .slice A51 5 5, .int .i64 1, .int .i64 1, .slice A54 5 5, .int .i64 1, .int .i64 1, .slice A57 3 3, .int .i64 1, .int .i64 0, .slice A60 1 1, .int .i64 1, .int .i64 0, .slice A63 1 1] 94, row A63 1 1 (List.flatMap (eI .i64) ([10])) 93 1, row A60 1 1 (List.flatMap (eI .i64) ([10])) 93 1, row A57 3 3 (List.flatMap (eI .i64) ([10, 14, 15])) 93 1, row A54 5 5 (List.flatMap (eI .i64) ([10, 14, 15, 13, 7])) 93 1, row A51 5 5 (List.flatMap (eI .i64) ([9, 10, 12, 8, 13])) 93 1, row A48 1 1 (List.flatMap (eI .i64) ([9])) 93 1, row A45 4 4 (List.flatMap (eI .i64) ([9, 6, 10, 11])) 93 1, row A42 1 1 (List.flatMap (eI .i64) ([4])) 93 1, row A39 1 1 (List.flatMap (eI .i64) ([4])) 93 1, row A36 2 2 (List.flatMap (eI .i64) ([4, 8])) 93 1, row A33 3 3 (List.flatMap (eI .i64) ([4, 2, 3])) 93 1, row A30 4 4 (List.flatMap (eI .i64) ([4, 5, 6, 7])) 93 1, row A27 4 4 (List.flatMap (eI .i64) ([0, 1, 2, 3])) 93 1, row A24 3 3 (List.flatMap (eI .i64) ([0, 1, 7])) 93 1] := H80.free (row_nil 93 1)
 have H82 := H81.pk [0]
 have e : wire_layoutOf p0 = (layoutT.mk 0 0 (Ll.mk ([])), false) := et (iN h71) (ip h77)
 obtain ⟨rfl, rfl⟩ := pj2 (e.symm.trans hr)
 exact ⟨none, 0, rfl, H82, (by first | omega | exact Nat.le_of_ble_eq_true rfl)⟩
 refine jF (dF h77) (sk (sr (fw (.int .i64 ((Int.toNat p0 : Nat) : Int)) (Yl.int (e := p0) (Yl.move rfl) (by omega)) ?_)))
 by_cases h83 : ((Int.toNat p0 : Nat) : Int) = 1
 refine fw (.pointer (some ⟨g66, 3, none⟩)) (by rw [show ((Int.toNat p0 : Nat) : Int) = 1 from by omega]; exact yk) (La ([.int .i64 2, .int .i64 0, .slice A24 3 3]) H70 0 Tryz.isAgg50 Tryz.sizeOf50 ?_)
 have H84 := H70.pk [15, 0, 1, 2, 3, 4, 5, 6, 7, 8, 9, 10, 11, 12, 13, 14]
 refine sto [.int .i64 2, .int .i64 0, .slice A24 3 3] 0 H84 Tryz.sizeOf50 ?_
 intro w85 H86
 refine An rfl (rt (Fin.res (resN (vs := [.agg #[.int .i64 2, .int .i64 0, .slice A24 3 3], .bool true]) rfl (ResV.cell rfl (Lds.agg (cs := [.int .i64 2, .int .i64 0, .slice A24 3 3]) Tryz.isAgg50 Tryz.sizeOf50 ((H86.cls (i := 0) rfl).lit (k := 0) (m := 3) rfl)) (ResV.tmp rfl ResV.nil)) (Nat.le_of_ble_eq_true rfl)) ?_))
 have H87 := H86.pk [15]
 have e : wire_layoutOf p0 = (layoutT.mk 2 0 (Ll.mk ([0, 1, 7])), true) := et (iN h71) (et (iN h77) (ip h83))
 obtain ⟨rfl, rfl⟩ := pj2 (e.symm.trans hr)
 exact ⟨A24, 3, rfl, H87, (by first | omega | exact Nat.le_of_ble_eq_true rfl)⟩
 by_cases h88 : ((Int.toNat p0 : Nat) : Int) = 2
 refine fw (.pointer (some ⟨g66, 6, none⟩)) (by rw [show ((Int.toNat p0 : Nat) : Int) = 2 from by omega]; exact yk) (La ([.int .i64 0, .int .i64 2, .slice A27 4 4]) H70 0 Tryz.isAgg50 Tryz.sizeOf50 ?_)
 have H89 := H70.pk [15, 0, 1, 2, 3, 4, 5, 6, 7, 8, 9, 10, 11, 12, 13, 14]
 refine sto [.int .i64 0, .int .i64 2, .slice A27 4 4] 0 H89 Tryz.sizeOf50 ?_
 intro w90 H91
 refine An rfl (rt (Fin.res (resN (vs := [.agg #[.int .i64 0, .int .i64 2, .slice A27 4 4], .bool true]) rfl (ResV.cell rfl (Lds.agg (cs := [.int .i64 0, .int .i64 2, .slice A27 4 4]) Tryz.isAgg50 Tryz.sizeOf50 ((H91.cls (i := 0) rfl).lit (k := 0) (m := 3) rfl)) (ResV.tmp rfl ResV.nil)) (Nat.le_of_ble_eq_true rfl)) ?_))
 have H92 := H91.pk [14]
 have e : wire_layoutOf p0 = (layoutT.mk 0 2 (Ll.mk ([0, 1, 2, 3])), true) := et (iN h71) (et (iN h77) (et (iN h83) (ip h88)))
 obtain ⟨rfl, rfl⟩ := pj2 (e.symm.trans hr)
 exact ⟨A27, 4, rfl, H92, (by first | omega | exact Nat.le_of_ble_eq_true rfl)⟩
 by_cases h93 : ((Int.toNat p0 : Nat) : Int) = 3
 refine fw (.pointer (some ⟨g66, 9, none⟩)) (by rw [show ((Int.toNat p0 : Nat) : Int) = 3 from by omega]; exact yk) (La ([.int .i64 0, .int .i64 1, .slice A30 4 4]) H70 0 Tryz.isAgg50 Tryz.sizeOf50 ?_)
 have H94 := H70.pk [15, 0, 1, 2, 3, 4, 5, 6, 7, 8, 9, 10, 11, 12, 13, 14]
 refine sto [.int .i64 0, .int .i64 1, .slice A30 4 4] 0 H94 Tryz.sizeOf50 ?_
 intro w95 H96
 refine An rfl (rt (Fin.res (resN (vs := [.agg #[.int .i64 0, .int .i64 1, .slice A30 4 4], .bool true]) rfl (ResV.cell rfl (Lds.agg (cs := [.int .i64 0, .int .i64 1, .slice A30 4 4]) Tryz.isAgg50 Tryz.sizeOf50 ((H96.cls (i := 0) rfl).lit (k := 0) (m := 3) rfl)) (ResV.tmp rfl ResV.nil)) (Nat.le_of_ble_eq_true rfl)) ?_))
 have H97 := H96.pk [13]
 have e : wire_layoutOf p0 = (layoutT.mk 0 1 (Ll.mk ([4, 5, 6, 7])), true) := et (iN h71) (et (iN h77) (et (iN h83) (et (iN h88) (ip h93))))
 obtain ⟨rfl, rfl⟩ := pj2 (e.symm.trans hr)
 exact ⟨A30, 4, rfl, H97, (by first | omega | exact Nat.le_of_ble_eq_true rfl)⟩
 by_cases h98 : ((Int.toNat p0 : Nat) : Int) = 4
 refine fw (.pointer (some ⟨g66, 12, none⟩)) (by rw [show ((Int.toNat p0 : Nat) : Int) = 4 from by omega]; exact yk) (La ([.int .i64 1, .int .i64 0, .slice A33 3 3]) H70 0 Tryz.isAgg50 Tryz.sizeOf50 ?_)
 have H99 := H70.pk [15, 0, 1, 2, 3, 4, 5, 6, 7, 8, 9, 10, 11, 12, 13, 14]
 refine sto [.int .i64 1, .int .i64 0, .slice A33 3 3] 0 H99 Tryz.sizeOf50 ?_
 intro w100 H101
 refine An rfl (rt (Fin.res (resN (vs := [.agg #[.int .i64 1, .int .i64 0, .slice A33 3 3], .bool true]) rfl (ResV.cell rfl (Lds.agg (cs := [.int .i64 1, .int .i64 0, .slice A33 3 3]) Tryz.isAgg50 Tryz.sizeOf50 ((H101.cls (i := 0) rfl).lit (k := 0) (m := 3) rfl)) (ResV.tmp rfl ResV.nil)) (Nat.le_of_ble_eq_true rfl)) ?_))
 have H102 := H101.pk [12]
 have e : wire_layoutOf p0 = (layoutT.mk 1 0 (Ll.mk ([4, 2, 3])), true) := et (iN h71) (et (iN h77) (et (iN h83) (et (iN h88) (et (iN h93) (ip h98)))))
 obtain ⟨rfl, rfl⟩ := pj2 (e.symm.trans hr)
 exact ⟨A33, 3, rfl, H102, (by first | omega | exact Nat.le_of_ble_eq_true rfl)⟩
 by_cases h103 : ((Int.toNat p0 : Nat) : Int) = 5
 refine fw (.pointer (some ⟨g66, 15, none⟩)) (by rw [show ((Int.toNat p0 : Nat) : Int) = 5 from by omega]; exact yk) (La ([.int .i64 0, .int .i64 1, .slice A36 2 2]) H70 0 Tryz.isAgg50 Tryz.sizeOf50 ?_)
 have H104 := H70.pk [15, 0, 1, 2, 3, 4, 5, 6, 7, 8, 9, 10, 11, 12, 13, 14]
 refine sto [.int .i64 0, .int .i64 1, .slice A36 2 2] 0 H104 Tryz.sizeOf50 ?_
 intro w105 H106
 refine An rfl (rt (Fin.res (resN (vs := [.agg #[.int .i64 0, .int .i64 1, .slice A36 2 2], .bool true]) rfl (ResV.cell rfl (Lds.agg (cs := [.int .i64 0, .int .i64 1, .slice A36 2 2]) Tryz.isAgg50 Tryz.sizeOf50 ((H106.cls (i := 0) rfl).lit (k := 0) (m := 3) rfl)) (ResV.tmp rfl ResV.nil)) (Nat.le_of_ble_eq_true rfl)) ?_))
 have H107 := H106.pk [11]
 have e : wire_layoutOf p0 = (layoutT.mk 0 1 (Ll.mk ([4, 8])), true) := et (iN h71) (et (iN h77) (et (iN h83) (et (iN h88) (et (iN h93) (et (iN h98) (ip h103))))))
 obtain ⟨rfl, rfl⟩ := pj2 (e.symm.trans hr)
 exact ⟨A36, 2, rfl, H107, (by first | omega | exact Nat.le_of_ble_eq_true rfl)⟩
 by_cases h108 : ((Int.toNat p0 : Nat) : Int) = 6
 refine fw (.pointer (some ⟨g66, 18, none⟩)) (by rw [show ((Int.toNat p0 : Nat) : Int) = 6 from by omega]; exact yk) (La ([.int .i64 1, .int .i64 0, .slice A39 1 1]) H70 0 Tryz.isAgg50 Tryz.sizeOf50 ?_)
 have H109 := H70.pk [15, 0, 1, 2, 3, 4, 5, 6, 7, 8, 9, 10, 11, 12, 13, 14]
 refine sto [.int .i64 1, .int .i64 0, .slice A39 1 1] 0 H109 Tryz.sizeOf50 ?_
 intro w110 H111
 refine An rfl (rt (Fin.res (resN (vs := [.agg #[.int .i64 1, .int .i64 0, .slice A39 1 1], .bool true]) rfl (ResV.cell rfl (Lds.agg (cs := [.int .i64 1, .int .i64 0, .slice A39 1 1]) Tryz.isAgg50 Tryz.sizeOf50 ((H111.cls (i := 0) rfl).lit (k := 0) (m := 3) rfl)) (ResV.tmp rfl ResV.nil)) (Nat.le_of_ble_eq_true rfl)) ?_))
 have H112 := H111.pk [10]
 have e : wire_layoutOf p0 = (layoutT.mk 1 0 (Ll.mk ([4])), true) := et (iN h71) (et (iN h77) (et (iN h83) (et (iN h88) (et (iN h93) (et (iN h98) (et (iN h103) (ip h108)))))))
 obtain ⟨rfl, rfl⟩ := pj2 (e.symm.trans hr)
 exact ⟨A39, 1, rfl, H112, (by first | omega | exact Nat.le_of_ble_eq_true rfl)⟩
 by_cases h113 : ((Int.toNat p0 : Nat) : Int) = 7
 refine fw (.pointer (some ⟨g66, 21, none⟩)) (by rw [show ((Int.toNat p0 : Nat) : Int) = 7 from by omega]; exact yk) (La ([.int .i64 1, .int .i64 0, .slice A42 1 1]) H70 0 Tryz.isAgg50 Tryz.sizeOf50 ?_)
 have H114 := H70.pk [15, 0, 1, 2, 3, 4, 5, 6, 7, 8, 9, 10, 11, 12, 13, 14]
 refine sto [.int .i64 1, .int .i64 0, .slice A42 1 1] 0 H114 Tryz.sizeOf50 ?_
 intro w115 H116
 refine An rfl (rt (Fin.res (resN (vs := [.agg #[.int .i64 1, .int .i64 0, .slice A42 1 1], .bool true]) rfl (ResV.cell rfl (Lds.agg (cs := [.int .i64 1, .int .i64 0, .slice A42 1 1]) Tryz.isAgg50 Tryz.sizeOf50 ((H116.cls (i := 0) rfl).lit (k := 0) (m := 3) rfl)) (ResV.tmp rfl ResV.nil)) (Nat.le_of_ble_eq_true rfl)) ?_))
 have H117 := H116.pk [9]
 have e : wire_layoutOf p0 = (layoutT.mk 1 0 (Ll.mk ([4])), true) := et (iN h71) (et (iN h77) (et (iN h83) (et (iN h88) (et (iN h93) (et (iN h98) (et (iN h103) (et (iN h108) (ip h113))))))))
 obtain ⟨rfl, rfl⟩ := pj2 (e.symm.trans hr)
 exact ⟨A42, 1, rfl, H117, (by first | omega | exact Nat.le_of_ble_eq_true rfl)⟩
 by_cases h118 : ((Int.toNat p0 : Nat) : Int) = 8
 refine fw (.pointer (some ⟨g66, 24, none⟩)) (by rw [show ((Int.toNat p0 : Nat) : Int) = 8 from by omega]; exact yk) (La ([.int .i64 0, .int .i64 1, .slice A45 4 4]) H70 0 Tryz.isAgg50 Tryz.sizeOf50 ?_)
 have H119 := H70.pk [15, 0, 1, 2, 3, 4, 5, 6, 7, 8, 9, 10, 11, 12, 13, 14]
 refine sto [.int .i64 0, .int .i64 1, .slice A45 4 4] 0 H119 Tryz.sizeOf50 ?_
 intro w120 H121
 refine An rfl (rt (Fin.res (resN (vs := [.agg #[.int .i64 0, .int .i64 1, .slice A45 4 4], .bool true]) rfl (ResV.cell rfl (Lds.agg (cs := [.int .i64 0, .int .i64 1, .slice A45 4 4]) Tryz.isAgg50 Tryz.sizeOf50 ((H121.cls (i := 0) rfl).lit (k := 0) (m := 3) rfl)) (ResV.tmp rfl ResV.nil)) (Nat.le_of_ble_eq_true rfl)) ?_))
 have H122 := H121.pk [8]
 have e : wire_layoutOf p0 = (layoutT.mk 0 1 (Ll.mk ([9, 6, 10, 11])), true) := et (iN h71) (et (iN h77) (et (iN h83) (et (iN h88) (et (iN h93) (et (iN h98) (et (iN h103) (et (iN h108) (et (iN h113) (ip h118)))))))))
 obtain ⟨rfl, rfl⟩ := pj2 (e.symm.trans hr)
 exact ⟨A45, 4, rfl, H122, (by first | omega | exact Nat.le_of_ble_eq_true rfl)⟩
 by_cases h123 : ((Int.toNat p0 : Nat) : Int) = 9
 refine fw (.pointer (some ⟨g66, 27, none⟩)) (by rw [show ((Int.toNat p0 : Nat) : Int) = 9 from by omega]; exact yk) (La ([.int .i64 1, .int .i64 0, .slice A48 1 1]) H70 0 Tryz.isAgg50 Tryz.sizeOf50 ?_)
 have H124 := H70.pk [15, 0, 1, 2, 3, 4, 5, 6, 7, 8, 9, 10, 11, 12, 13, 14]
 refine sto [.int .i64 1, .int .i64 0, .slice A48 1 1] 0 H124 Tryz.sizeOf50 ?_
 intro w125 H126
 refine An rfl (rt (Fin.res (resN (vs := [.agg #[.int .i64 1, .int .i64 0, .slice A48 1 1], .bool true]) rfl (ResV.cell rfl (Lds.agg (cs := [.int .i64 1, .int .i64 0, .slice A48 1 1]) Tryz.isAgg50 Tryz.sizeOf50 ((H126.cls (i := 0) rfl).lit (k := 0) (m := 3) rfl)) (ResV.tmp rfl ResV.nil)) (Nat.le_of_ble_eq_true rfl)) ?_))
 have H127 := H126.pk [7]
 have e : wire_layoutOf p0 = (layoutT.mk 1 0 (Ll.mk ([9])), true) := et (iN h71) (et (iN h77) (et (iN h83) (et (iN h88) (et (iN h93) (et (iN h98) (et (iN h103) (et (iN h108) (et (iN h113) (et (iN h118) (ip h123))))))))))
 obtain ⟨rfl, rfl⟩ := pj2 (e.symm.trans hr)
 exact ⟨A48, 1, rfl, H127, (by first | omega | exact Nat.le_of_ble_eq_true rfl)⟩
 by_cases h128 : ((Int.toNat p0 : Nat) : Int) = 10
 refine fw (.pointer (some ⟨g66, 30, none⟩)) (by rw [show ((Int.toNat p0 : Nat) : Int) = 10 from by omega]; exact yk) (La ([.int .i64 0, .int .i64 1, .slice A51 5 5]) H70 0 Tryz.isAgg50 Tryz.sizeOf50 ?_)
 have H129 := H70.pk [15, 0, 1, 2, 3, 4, 5, 6, 7, 8, 9, 10, 11, 12, 13, 14]
 refine sto [.int .i64 0, .int .i64 1, .slice A51 5 5] 0 H129 Tryz.sizeOf50 ?_
 intro w130 H131
 refine An rfl (rt (Fin.res (resN (vs := [.agg #[.int .i64 0, .int .i64 1, .slice A51 5 5], .bool true]) rfl (ResV.cell rfl (Lds.agg (cs := [.int .i64 0, .int .i64 1, .slice A51 5 5]) Tryz.isAgg50 Tryz.sizeOf50 ((H131.cls (i := 0) rfl).lit (k := 0) (m := 3) rfl)) (ResV.tmp rfl ResV.nil)) (Nat.le_of_ble_eq_true rfl)) ?_))
 have H132 := H131.pk [6]
 have e : wire_layoutOf p0 = (layoutT.mk 0 1 (Ll.mk ([9, 10, 12, 8, 13])), true) := et (iN h71) (et (iN h77) (et (iN h83) (et (iN h88) (et (iN h93) (et (iN h98) (et (iN h103) (et (iN h108) (et (iN h113) (et (iN h118) (et (iN h123) (ip h128)))))))))))
 obtain ⟨rfl, rfl⟩ := pj2 (e.symm.trans hr)
 exact ⟨A51, 5, rfl, H132, (by first | omega | exact Nat.le_of_ble_eq_true rfl)⟩
 by_cases h133 : ((Int.toNat p0 : Nat) : Int) = 11
 refine fw (.pointer (some ⟨g66, 33, none⟩)) (by rw [show ((Int.toNat p0 : Nat) : Int) = 11 from by omega]; exact yk) (La ([.int .i64 1, .int .i64 1, .slice A54 5 5]) H70 0 Tryz.isAgg50 Tryz.sizeOf50 ?_)
 have H134 := H70.pk [15, 0, 1, 2, 3, 4, 5, 6, 7, 8, 9, 10, 11, 12, 13, 14]
 refine sto [.int .i64 1, .int .i64 1, .slice A54 5 5] 0 H134 Tryz.sizeOf50 ?_
 intro w135 H136
 refine An rfl (rt (Fin.res (resN (vs := [.agg #[.int .i64 1, .int .i64 1, .slice A54 5 5], .bool true]) rfl (ResV.cell rfl (Lds.agg (cs := [.int .i64 1, .int .i64 1, .slice A54 5 5]) Tryz.isAgg50 Tryz.sizeOf50 ((H136.cls (i := 0) rfl).lit (k := 0) (m := 3) rfl)) (ResV.tmp rfl ResV.nil)) (Nat.le_of_ble_eq_true rfl)) ?_))
 have H137 := H136.pk [5]
 have e : wire_layoutOf p0 = (layoutT.mk 1 1 (Ll.mk ([10, 14, 15, 13, 7])), true) := et (iN h71) (et (iN h77) (et (iN h83) (et (iN h88) (et (iN h93) (et (iN h98) (et (iN h103) (et (iN h108) (et (iN h113) (et (iN h118) (et (iN h123) (et (iN h128) (ip h133))))))))))))
 obtain ⟨rfl, rfl⟩ := pj2 (e.symm.trans hr)
 exact ⟨A54, 5, rfl, H137, (by first | omega | exact Nat.le_of_ble_eq_true rfl)⟩
 by_cases h138 : ((Int.toNat p0 : Nat) : Int) = 12
 refine fw (.pointer (some ⟨g66, 36, none⟩)) (by rw [show ((Int.toNat p0 : Nat) : Int) = 12 from by omega]; exact yk) (La ([.int .i64 1, .int .i64 1, .slice A57 3 3]) H70 0 Tryz.isAgg50 Tryz.sizeOf50 ?_)
 have H139 := H70.pk [15, 0, 1, 2, 3, 4, 5, 6, 7, 8, 9, 10, 11, 12, 13, 14]
 refine sto [.int .i64 1, .int .i64 1, .slice A57 3 3] 0 H139 Tryz.sizeOf50 ?_
 intro w140 H141
 refine An rfl (rt (Fin.res (resN (vs := [.agg #[.int .i64 1, .int .i64 1, .slice A57 3 3], .bool true]) rfl (ResV.cell rfl (Lds.agg (cs := [.int .i64 1, .int .i64 1, .slice A57 3 3]) Tryz.isAgg50 Tryz.sizeOf50 ((H141.cls (i := 0) rfl).lit (k := 0) (m := 3) rfl)) (ResV.tmp rfl ResV.nil)) (Nat.le_of_ble_eq_true rfl)) ?_))
 have H142 := H141.pk [4]
 have e : wire_layoutOf p0 = (layoutT.mk 1 1 (Ll.mk ([10, 14, 15])), true) := et (iN h71) (et (iN h77) (et (iN h83) (et (iN h88) (et (iN h93) (et (iN h98) (et (iN h103) (et (iN h108) (et (iN h113) (et (iN h118) (et (iN h123) (et (iN h128) (et (iN h133) (ip h138)))))))))))))
 obtain ⟨rfl, rfl⟩ := pj2 (e.symm.trans hr)
 exact ⟨A57, 3, rfl, H142, (by first | omega | exact Nat.le_of_ble_eq_true rfl)⟩
 by_cases h143 : ((Int.toNat p0 : Nat) : Int) = 13
 refine fw (.pointer (some ⟨g66, 39, none⟩)) (by rw [show ((Int.toNat p0 : Nat) : Int) = 13 from by omega]; exact yk) (La ([.int .i64 1, .int .i64 0, .slice A60 1 1]) H70 0 Tryz.isAgg50 Tryz.sizeOf50 ?_)
 have H144 := H70.pk [15, 0, 1, 2, 3, 4, 5, 6, 7, 8, 9, 10, 11, 12, 13, 14]
 refine sto [.int .i64 1, .int .i64 0, .slice A60 1 1] 0 H144 Tryz.sizeOf50 ?_
 intro w145 H146
 refine An rfl (rt (Fin.res (resN (vs := [.agg #[.int .i64 1, .int .i64 0, .slice A60 1 1], .bool true]) rfl (ResV.cell rfl (Lds.agg (cs := [.int .i64 1, .int .i64 0, .slice A60 1 1]) Tryz.isAgg50 Tryz.sizeOf50 ((H146.cls (i := 0) rfl).lit (k := 0) (m := 3) rfl)) (ResV.tmp rfl ResV.nil)) (Nat.le_of_ble_eq_true rfl)) ?_))
 have H147 := H146.pk [3]
 have e : wire_layoutOf p0 = (layoutT.mk 1 0 (Ll.mk ([10])), true) := et (iN h71) (et (iN h77) (et (iN h83) (et (iN h88) (et (iN h93) (et (iN h98) (et (iN h103) (et (iN h108) (et (iN h113) (et (iN h118) (et (iN h123) (et (iN h128) (et (iN h133) (et (iN h138) (ip h143))))))))))))))
 obtain ⟨rfl, rfl⟩ := pj2 (e.symm.trans hr)
 exact ⟨A60, 1, rfl, H147, (by first | omega | exact Nat.le_of_ble_eq_true rfl)⟩
 refine fw (.pointer (some ⟨g66, 42, none⟩)) (by rw [show ((Int.toNat p0 : Nat) : Int) = 14 from by omega]; exact yk) (La ([.int .i64 1, .int .i64 0, .slice A63 1 1]) H70 0 Tryz.isAgg50 Tryz.sizeOf50 ?_)
 have H148 := H70.pk [15, 0, 1, 2, 3, 4, 5, 6, 7, 8, 9, 10, 11, 12, 13, 14]
 refine sto [.int .i64 1, .int .i64 0, .slice A63 1 1] 0 H148 Tryz.sizeOf50 ?_
 intro w149 H150
 refine An rfl (rt (Fin.res (resN (vs := [.agg #[.int .i64 1, .int .i64 0, .slice A63 1 1], .bool true]) rfl (ResV.cell rfl (Lds.agg (cs := [.int .i64 1, .int .i64 0, .slice A63 1 1]) Tryz.isAgg50 Tryz.sizeOf50 ((H150.cls (i := 0) rfl).lit (k := 0) (m := 3) rfl)) (ResV.tmp rfl ResV.nil)) (Nat.le_of_ble_eq_true rfl)) ?_))
 have H151 := H150.pk [2]
 have e : wire_layoutOf p0 = (layoutT.mk 1 0 (Ll.mk ([10])), true) := et (iN h71) (et (iN h77) (et (iN h83) (et (iN h88) (et (iN h93) (et (iN h98) (et (iN h103) (et (iN h108) (et (iN h113) (et (iN h118) (et (iN h123) (et (iN h128) (et (iN h133) (et (iN h138) (iN h143))))))))))))))
 obtain ⟨rfl, rfl⟩ := pj2 (e.symm.trans hr)
 exact ⟨A63, 1, rfl, H151, (by first | omega | exact Nat.le_of_ble_eq_true rfl)⟩
def wire_mayCode (p0 : Int) (p1 : Int) : Bool :=
 if p0 = 2 then if p1 = 1 then true else decide (p1 = 2) else if p1 = 3 then true else if p1 = 4 then true else decide (p1 = 5)
set_option maxRecDepth 100000 in
theorem wire_mayCode_ok (w : World) (D : Nat → Prop) (p0 : Int) (p1 : Int) (r0 : Bool) (H : Own w D w [])  (hr : wire_mayCode p0 p1 = r0) :
    Calls Tryz.prog 103 #[.int .i64 p0, .int .i64 p1] w (Ret fun v w' => v = .bool r0 ∧ Own w D w' []) := by
 refine Calls.body (args := [.int .i64 p0, .int .i64 p1]) Tryz.func103 rfl rfl rfl ?_
 show Wp _ _ _ [(0, .int .i64 p0), (1, .int .i64 p1)] _ _
 refine sr (An rfl (Wp.seq (sr (Mz rfl (Kz (.bool (decide (p0 = 2))) (nt ?_))))))
 by_cases h21 : p0 = 2
 refine jT (dT h21) (sr (Mz rfl (Kz (.bool (decide (p1 = 1))) (Mz rfl ?_))))
 by_cases h22 : p1 = 1
 refine Sz (dT h22) (Sz (dT h22) (fw (.bool true) (Yl.pickT rfl (dT h22) rfl) (An rfl (rt (tR (rs ?_))))))
 have H23 : Own w D w [] := H.pk []
 obtain rfl : _ = true := hr.symm.trans (et (ip h21) (ip h22))
 exact ⟨rfl, H23⟩
 refine gw (.int .i64 p1) (dF h22) (Yl.move rfl) (Gz (.bool (decide (p1 = 2))) (dF h22) (fw (.bool (decide (p1 = 2))) (Yl.pickF rfl (dF h22) rfl) (An rfl (rt (tR (rs ?_))))))
 have H24 : Own w D w [] := H.pk []
 obtain rfl : _ = decide (p1 = 2) := hr.symm.trans (et (ip h21) (iN h22))
 exact ⟨rfl, H24⟩
 refine jF (dF h21) (sk (sr (Mz rfl (Kz (.bool (decide (p1 = 3))) (Mz rfl ?_)))))
 by_cases h25 : p1 = 3
 refine Sz (dT h25) (Sz (dT h25) (fw (.bool true) (Yl.pickT rfl (dT h25) rfl) (Mz rfl (Sz rfl (Sz rfl (fw (.bool true) (Yl.pickT rfl rfl rfl) (An rfl (rt (rs ?_)))))))))
 have H26 : Own w D w [] := H.pk []
 obtain rfl : _ = true := hr.symm.trans (et (iN h21) (ip h25))
 exact ⟨rfl, H26⟩
 refine gw (.int .i64 p1) (dF h25) (Yl.move rfl) (Gz (.bool (decide (p1 = 4))) (dF h25) (fw (.bool (decide (p1 = 4))) (Yl.pickF rfl (dF h25) rfl) (Mz rfl ?_)))
 by_cases h27 : p1 = 4
 refine Sz (dT h27) (Sz (dT h27) (fw (.bool true) (Yl.pickT rfl (dT h27) rfl) (An rfl (rt (rs ?_)))))
 have H28 : Own w D w [] := H.pk []
 obtain rfl : _ = true := hr.symm.trans (et (iN h21) (et (iN h25) (ip h27)))
 exact ⟨rfl, H28⟩
 refine gw (.int .i64 p1) (dF h27) (Yl.move rfl) (Gz (.bool (decide (p1 = 5))) (dF h27) (fw (.bool (decide (p1 = 5))) (Yl.pickF rfl (dF h27) rfl) (An rfl (rt (rs ?_)))))
 have H29 : Own w D w [] := H.pk []
 obtain rfl : _ = decide (p1 = 5) := hr.symm.trans (et (iN h21) (et (iN h25) (iN h27)))
 exact ⟨rfl, H29⟩
theorem El26 : Elem Tryz.prog 26 84 3 48 := elem_of (z := .agg #[.bool false, .string ⟨List.toArray ([])⟩, .slice none 0 0]) Tryz.underlying26 (by kernel_rfl) rfl (by decide)
theorem El82 : Elem Tryz.prog 82 86 2 32 := elem_of (z := .agg #[.string ⟨List.toArray ([])⟩, .string ⟨List.toArray ([])⟩]) Tryz.underlying82 (by kernel_rfl) rfl (by decide)
structure PairD where
 xKey : List UInt8
 xValue : List UInt8
def PairD.cells (x : PairD) : List Value := [.string ⟨List.toArray x.xKey⟩, .string ⟨List.toArray x.xValue⟩]
instance : Bk PairD := ⟨fun x _ => bk x.xKey + (bk x.xValue + (0))⟩
theorem PairD.len : ∀ x, (PairD.cells x).length = 2 := fun _ => rfl
theorem PairD.one : ∀ x, ∀ u ∈ PairD.cells x, u.oneCell' = true := fun x u hu => by
 simp only [PairD.cells, List.mem_cons, List.not_mem_nil, or_false] at hu
 rcases hu with rfl | rfl <;> rfl
def PairD.Ok (w : World) (x : PairD) : Prop := (x.xKey.length ≤ 140737488351232) ∧ (x.xValue.length ≤ 140737488351232)
set_option maxRecDepth 100000 in
theorem opens_PairD (w : World) : Opens Tryz.prog w 86 2 PairD.cells (PairD.Ok w) :=
 (opens_struct (sz := 2) Tryz.underlying86 (by kernel_rfl) (OpensF.cons (i := 0) (off := 0) (s := 1) rfl rfl (opens_string Tryz.underlying9 (by kernel_rfl)) (OpensF.cons (i := 1) (off := 1) (s := 1) rfl rfl (opens_string Tryz.underlying9 (by kernel_rfl)) OpensF.nil))).map (fun p => ⟨p.1, p.2.1⟩) PairD.len (fun _ => rfl) (fun _ h => ⟨h.1, h.2.1⟩) fun _ => Nat.le_refl _
instance : Inhabited PairD := ⟨⟨default, default⟩⟩
structure ResultD where
 xFound : Bool
 xValue : List UInt8
 xPairs : Sv PairD
def ResultD.cells (x : ResultD) : List Value := [.bool x.xFound, .string ⟨List.toArray x.xValue⟩, .slice x.xPairs.A x.xPairs.ls.length x.xPairs.c]
instance : Bk ResultD := ⟨fun x _ => bk x.xFound + (bk x.xValue + (bk x.xPairs + (0)))⟩
theorem ResultD.len : ∀ x, (ResultD.cells x).length = 3 := fun _ => rfl
theorem ResultD.one : ∀ x, ∀ u ∈ ResultD.cells x, u.oneCell' = true := fun x u hu => by
 simp only [ResultD.cells, List.mem_cons, List.not_mem_nil, or_false] at hu
 rcases hu with rfl | rfl | rfl <;> rfl
def ResultD.Ok (w : World) (x : ResultD) : Prop := (True) ∧ (x.xValue.length ≤ 140737488351232) ∧ (SvOk w 2 32 PairD.cells (PairD.Ok w) x.xPairs)
set_option maxRecDepth 100000 in
theorem opens_ResultD (w : World) : Opens Tryz.prog w 84 3 ResultD.cells (ResultD.Ok w) :=
 (opens_struct (sz := 3) Tryz.underlying84 (by kernel_rfl) (OpensF.cons (i := 0) (off := 0) (s := 1) rfl rfl (opens_bool Tryz.underlying4 (by kernel_rfl)) (OpensF.cons (i := 1) (off := 1) (s := 1) rfl rfl (opens_string Tryz.underlying9 (by kernel_rfl)) (OpensF.cons (i := 2) (off := 2) (s := 1) rfl rfl (opens_slice (bytes := 32) Tryz.underlying82 (by kernel_rfl) (by kernel_rfl) (by decide) (opens_PairD w)) OpensF.nil)))).map (fun p => ⟨p.1, p.2.1, p.2.2.1⟩) ResultD.len (fun _ => rfl) (fun _ h => ⟨h.1, h.2.1, h.2.2.1⟩) fun _ => Nat.le_refl _
instance : Inhabited ResultD := ⟨⟨default, default, default⟩⟩
structure ResultT where
 xFound : Bool
 xValue : List UInt8
 xPairs : Ll PairD
instance : Inhabited ResultT := ⟨⟨default, default, default⟩⟩
def ResultD.abs (x : ResultD) : ResultT := ⟨x.xFound, x.xValue, ⟨x.xPairs.ls⟩⟩
def ResultD.own (x : ResultD) : List HP := [row x.xPairs.A x.xPairs.ls.length x.xPairs.c (List.flatMap PairD.cells x.xPairs.ls) 86 2]
def span_CheckKey (p0 : List UInt8) : Int :=
 if ((p0.length : Nat) : Int) < 1 then 20 else if ((p0.length : Nat) : Int) > 12 then 20 else 0
set_option maxRecDepth 100000 in
theorem span_CheckKey_ok (w : World) (D : Nat → Prop) (p0 : List UInt8) (r0 : Int) (H : Own w D w [])  (hr : span_CheckKey p0 = r0) :
    Calls Tryz.prog 117 #[.string ⟨List.toArray p0⟩] w (Ret fun v w' => v = .int .i64 r0 ∧ Own w D w' [] ∧ (¬ (r0 = 0) ∨ (1 ≤ p0.length ∧ p0.length ≤ 12))) := by
 refine Calls.body (args := [.string ⟨List.toArray p0⟩]) Tryz.func117 rfl rfl rfl ?_
 show Wp _ _ _ [(0, .string ⟨List.toArray p0⟩)] _ _
 refine sr (An rfl (Wp.seq (sr (Mz rfl (Kz (.int .i64 ((p0.length : Nat) : Int)) (Kz (.bool (decide (((p0.length : Nat) : Int) < 1))) (Mz rfl ?_)))))))
 by_cases h21 : ((p0.length : Nat) : Int) < 1
 refine Sz (dT h21) (Sz (dT h21) (Sz (dT h21) (fw (.bool true) (Yl.pickT rfl (dT h21) rfl) (nt (jt (sr (An rfl (rt (tR (rs ?_))))))))))
 have H22 : Own w D w [] := H.pk []
 obtain rfl : _ = 20 := hr.symm.trans (ip h21)
 exact ⟨rfl, H22, (by omega)⟩
 refine gw (.string ⟨List.toArray p0⟩) (dF h21) (Yl.move rfl) (Gz (.int .i64 ((p0.length : Nat) : Int)) (dF h21) (Gz (.bool (decide (((p0.length : Nat) : Int) > 12))) (dF h21) (fw (.bool (decide (((p0.length : Nat) : Int) > 12))) (Yl.pickF rfl (dF h21) rfl) (nt ?_))))
 by_cases h23 : ((p0.length : Nat) : Int) > 12
 refine jT (dT h23) (sr (An rfl (rt (tR (rs ?_)))))
 have H24 : Own w D w [] := H.pk []
 obtain rfl : _ = 20 := hr.symm.trans (et (iN h21) (ip h23))
 exact ⟨rfl, H24, (by omega)⟩
 refine jF (dF h23) (sk (sr (An rfl (rt (rs ?_)))))
 have H25 : Own w D w [] := H.pk []
 obtain rfl : _ = 0 := hr.symm.trans (et (iN h21) (iN h23))
 exact ⟨rfl, H25, (by omega)⟩
def wire_mayResults_L1 : List PairD → Unit ⊕ Bool
  | [] => Sum.inl ()
  | x75 :: q64 => bnd (span_CheckKey x75.xKey) fun yr88 => if yr88 = 0 then if ((x75.xValue.length : Nat) : Int) > 16 then Sum.inr (false) else wire_mayResults_L1 q64 else Sum.inr (false)
def wire_mayResults_L0 : List ResultT → Unit ⊕ Bool
  | [] => Sum.inl ()
  | x49 :: q38 => if ((x49.xValue.length : Nat) : Int) > 16 then Sum.inr (false) else if ((x49.xPairs.ls.length : Nat) : Int) > 4 then Sum.inr (false) else lpS (wire_mayResults_L1 x49.xPairs.ls) fun _ => wire_mayResults_L0 q38
def wire_mayResults (p0 : Int) (l1 : List ResultT) : Bool :=
 bnd (if p0 = 2 then 4 else 24) fun sJrJ => if ((l1.length : Nat) : Int) > ((sJrJ : Nat) : Int) then false else lp (wire_mayResults_L0 l1) fun _ => true
set_option maxRecDepth 100000 in
theorem wire_mayResults_ok (w : World) (D : Nat → Prop) (p0 : Int) (A1 : Option Addr) (n1 c1 : Nat) (d1 : List ResultD) (l1 : List ResultT) (r0 : Bool) (H : Own w D w []) (hd1 : List.map ResultD.abs d1 = l1) (hx1 : Ro w D fun w' => Rds w' 3 A1 n1 (List.flatMap ResultD.cells d1)) (hm1 : ∀ x ∈ d1, Ro w D (fun w' => Rds w' 2 x.xPairs.A x.xPairs.ls.length (List.flatMap PairD.cells x.xPairs.ls)) ∧ (x.xPairs.ls.length ≤ x.xPairs.c ∧ x.xPairs.ls.length ≤ 9223372036854775807)) (hn1 : n1 = l1.length) (hl1 : l1.length ≤ 9223372036854775807) (hr : wire_mayResults p0 l1 = r0) :
    Calls Tryz.prog 104 #[.int .i64 p0, .slice A1 n1 c1] w (Ret fun v w' => v = .bool r0 ∧ Own w D w' []) := by
 subst hn1
 have hdl1 := abs_len hd1
 refine Calls.body (args := [.int .i64 p0, .slice A1 l1.length c1]) Tryz.func104 rfl rfl rfl ?_
 show Wp _ _ _ [(0, .int .i64 p0), (1, .slice A1 l1.length c1)] _ _
 refine sr (Ar rfl (An rfl (Wp.seq (sr (Mz rfl (Kz (.bool (decide (p0 = 2))) (nt ?_)))))))
 obtain ⟨I22, hI23⟩ : ∃ q : Nat → World → Prop, q = fun (i : Nat) w' => Own w D w' [] ∧ (i ≤ 9223372036854775807 ∧ i ≥ 4 ∧ i ≤ 24 ∧ (if p0 = 2 then 4 else 24) = i) := ⟨_, rfl⟩
 have dm24 : ∀ {k21 : Nat} {w' : World}, I22 k21 w' ↔ Own w D w' [] ∧ k21 ≤ 9223372036854775807 ∧ k21 ≥ 4 ∧ k21 ≤ 24 ∧ (if p0 = 2 then 4 else 24) = k21 := by intros; subst hI23; exact Iff.rfl
 refine Wp.joinT (fun i : Nat => [(5, .int .i64 ((i : Nat) : Int)), (4, .bool false), (1, .slice A1 l1.length c1)]) I22 ?_ ?_
 by_cases h25 : p0 = 2
 refine jT (dT h25) (Wp.region (Az rfl (WL.nil ?_)))
 have H26 : Own w D w [] := H.pk []
 exact Fin.join 4 ⟨rfl, rfl, rfl, trivial⟩ (dm24.2 ⟨H26, by omega, by omega, by omega, ip h25⟩)
 refine jF (dF h25) (Wp.skip ?_)
 have H27 : Own w D w [] := H.pk []
 exact Fin.join 24 ⟨rfl, rfl, rfl, trivial⟩ (dm24.2 ⟨H27, by omega, by omega, by omega, iN h25⟩)
 rintro k21 w28 hf30
 show Wp _ _ _ [(5, .int .i64 ((k21 : Nat) : Int)), (4, .bool false), (1, .slice A1 l1.length c1)] _ _
 obtain ⟨H29, hi32, hi33, hi34, hj31⟩ := dm24.1 hf30
 refine Wp.seq (sr (Mz rfl (Kz (.int .i64 ((l1.length : Nat) : Int)) (Mz rfl (Kz (.bool (decide (((l1.length : Nat) : Int) > ((k21 : Nat) : Int)))) (nt ?_))))))
 by_cases h35 : ((l1.length : Nat) : Int) > ((k21 : Nat) : Int)
 refine jT (dT h35) (sr (An rfl (rt (tR (rs ?_)))))
 have H36 := H29.pk []
 obtain rfl : _ = false := hr.symm.trans (et (bnd_of hj31) (ip h35))
 exact ⟨rfl, H36⟩
 refine jF (dF h35) (sk (Wp.seq (sr (Mz rfl (Kz (.int .i64 ((l1.length : Nat) : Int)) (Mn rfl (bo ?_)))))))
 have H39 := H29.pk []
 obtain ⟨I43, hI44⟩ : ∃ q : Nat → World → Prop, q = fun (i : Nat) w' => Own w D w' [] ∧ (i ≤ l1.length ∧ wire_mayResults_L0 l1 = wire_mayResults_L0 (List.drop i l1)) := ⟨_, rfl⟩
 have dm45 : ∀ {k37 : Nat} {w' : World}, I43 k37 w' ↔ Own w D w' [] ∧ k37 ≤ l1.length ∧ wire_mayResults_L0 l1 = wire_mayResults_L0 (List.drop k37 l1) := by intros; subst hI44; exact Iff.rfl
 refine Wp.loop (fun i : Nat => [(4, .bool false), (18, .int .i64 ((i : Nat) : Int)), (17, .int .i64 ((l1.length : Nat) : Int)), (16, .slice A1 l1.length c1)]) I43 (fun i => l1.length - i) 0 ⟨rfl, rfl, rfl, rfl, trivial⟩ (dm45.2 ⟨H39, by omega, rfl⟩) ?_
 rintro k37 w40 hf42
 show Wp _ _ _ [(4, .bool false), (18, .int .i64 ((k37 : Nat) : Int)), (17, .int .i64 ((l1.length : Nat) : Int)), (16, .slice A1 l1.length c1)] _ _
 obtain ⟨H41, hi47, hq46⟩ := dm45.1 hf42
 refine sr (Kz (.bool (decide (((k37 : Nat) : Int) < ((l1.length : Nat) : Int)))) (nt (Wp.seq ?_)))
 by_cases h48 : ((k37 : Nat) : Int) < ((l1.length : Nat) : Int)
 obtain ⟨x49, hx50⟩ := rds_at (ls := d1) (i := k37) ResultD.len (by decide) (H41.ro hx1) (by first | omega | (simp; done) | (simp; omega))
 have hX51 := abs_at hd1 hx50
 have hb52 := (hm1 _ (List.mem_of_getElem? hx50)).2
 have hd53 := drop_at hX51
 refine jT (dT h48) (sk (Wp.seq (bo (sr (fw (.pointer (some ⟨ab A1, ao A1 + k37 * 3, none⟩)) (Yl.indexAddr (El26) rfl rfl ((H41.ro hx1).addr (i := k37) (by omega)) (by omega)) (fw (.agg (ResultD.cells x49).toArray) (Yl.load rfl (Lds.agg (cs := (ResultD.cells x49)) Tryz.isAgg84 Tryz.sizeOf84 ((H41.ro hx1).elem ResultD.len hx50 (by decide)))) ?_))))))
 refine npw [.bool false, .string ⟨List.toArray ([])⟩, .slice none 0 0] 84 H41 ?_
 intro g54 w55 H56
 refine sto (ResultD.cells x49) 0 H56 Tryz.sizeOf84 ?_
 intro w57 H58
 refine nt (Wp.seq (sr (Kz (.pointer (some ⟨g54, 1, none⟩)) (Lz (.string ⟨List.toArray x49.xValue⟩) H58 0 Tryz.isAgg9 (Kz (.int .i64 ((x49.xValue.length : Nat) : Int)) (Kz (.bool (decide (((x49.xValue.length : Nat) : Int) > 16))) (Mz rfl ?_)))))))
 by_cases h59 : ((x49.xValue.length : Nat) : Int) > 16
 refine Sz (dT h59) (Sz (dT h59) (Sz (dT h59) (Sz (dT h59) (fw (.bool true) (Yl.pickT rfl (dT h59) rfl) (nt (jt (sr (An rfl (rt (tR (bR (tR (tR (bR (tR (rs ?_))))))))))))))))
 have H60 := H58.pk []
 obtain rfl : _ = false := hr.symm.trans (et (bnd_of hj31) (et (iN h35) (lp_r (et (hq46) (et (congrArg (fun q => wire_mayResults_L0 q) hd53) (ip h59))))))
 exact ⟨rfl, H60⟩
 refine Gz (.pointer (some ⟨g54, 2, none⟩)) (dF h59) (Gl (.slice x49.xPairs.A x49.xPairs.ls.length x49.xPairs.c) (dF h59) H58 0 Tryz.isAgg82 (Gz (.int .i64 ((x49.xPairs.ls.length : Nat) : Int)) (dF h59) (Gz (.bool (decide (((x49.xPairs.ls.length : Nat) : Int) > 4))) (dF h59) (fw (.bool (decide (((x49.xPairs.ls.length : Nat) : Int) > 4))) (Yl.pickF rfl (dF h59) rfl) (nt ?_)))))
 by_cases h61 : ((x49.xPairs.ls.length : Nat) : Int) > 4
 refine jT (dT h61) (sr (An rfl (rt (tR (bR (tR (tR (bR (tR (rs ?_))))))))))
 have H62 := H58.pk []
 obtain rfl : _ = false := hr.symm.trans (et (bnd_of hj31) (et (iN h35) (lp_r (et (hq46) (et (congrArg (fun q => wire_mayResults_L0 q) hd53) (et (iN h59) (ip h61)))))))
 exact ⟨rfl, H62⟩
 refine jF (dF h61) (sk (sr (Kz (.pointer (some ⟨g54, 2, none⟩)) (Lz (.slice x49.xPairs.A x49.xPairs.ls.length x49.xPairs.c) H58 0 Tryz.isAgg82 (Kz (.int .i64 ((x49.xPairs.ls.length : Nat) : Int)) (Mn rfl (bo ?_)))))))
 have H65 := H58.pk [0]
 obtain ⟨I69, hI70⟩ : ∃ q : Nat → World → Prop, q = fun (i : Nat) w' => Own w D w' [blk g54 (ResultD.cells x49) 84] ∧ (i ≤ x49.xPairs.ls.length ∧ wire_mayResults_L1 x49.xPairs.ls = wire_mayResults_L1 (List.drop i x49.xPairs.ls)) := ⟨_, rfl⟩
 have dm71 : ∀ {k63 : Nat} {w' : World}, I69 k63 w' ↔ Own w D w' [blk g54 (ResultD.cells x49) 84] ∧ k63 ≤ x49.xPairs.ls.length ∧ wire_mayResults_L1 x49.xPairs.ls = wire_mayResults_L1 (List.drop k63 x49.xPairs.ls) := by intros; subst hI70; exact Iff.rfl
 refine Wp.loop (fun i : Nat => [(4, .bool false), (35, .int .i64 ((i : Nat) : Int)), (34, .int .i64 ((x49.xPairs.ls.length : Nat) : Int)), (33, .slice x49.xPairs.A x49.xPairs.ls.length x49.xPairs.c), (32, .pointer (some ⟨g54, 2, none⟩)), (31, .bool (decide (((x49.xPairs.ls.length : Nat) : Int) > 4))), (30, .bool (decide (((x49.xPairs.ls.length : Nat) : Int) > 4))), (29, .int .i64 ((x49.xPairs.ls.length : Nat) : Int)), (28, .slice x49.xPairs.A x49.xPairs.ls.length x49.xPairs.c), (27, .pointer (some ⟨g54, 2, none⟩)), (26, .bool (decide (((x49.xValue.length : Nat) : Int) > 16))), (25, .bool (decide (((x49.xValue.length : Nat) : Int) > 16))), (24, .int .i64 ((x49.xValue.length : Nat) : Int)), (23, .string ⟨List.toArray x49.xValue⟩), (22, .pointer (some ⟨g54, 1, none⟩)), (7, .pointer (some ⟨g54, 0, none⟩)), (21, .agg (ResultD.cells x49).toArray), (20, .pointer (some ⟨ab A1, ao A1 + k37 * 3, none⟩)), (19, .bool (decide (((k37 : Nat) : Int) < ((l1.length : Nat) : Int)))), (18, .int .i64 ((k37 : Nat) : Int)), (17, .int .i64 ((l1.length : Nat) : Int)), (16, .slice A1 l1.length c1)]) I69 (fun i => x49.xPairs.ls.length - i) 0 ⟨rfl, rfl, rfl, rfl, rfl, rfl, rfl, rfl, rfl, rfl, rfl, rfl, rfl, rfl, rfl, rfl, rfl, rfl, rfl, rfl, rfl, rfl, trivial⟩ (dm71.2 ⟨H65, by omega, rfl⟩) ?_
 rintro k63 w66 hf68
 show Wp _ _ _ [(4, .bool false), (35, .int .i64 ((k63 : Nat) : Int)), (34, .int .i64 ((x49.xPairs.ls.length : Nat) : Int)), (33, .slice x49.xPairs.A x49.xPairs.ls.length x49.xPairs.c), (32, .pointer (some ⟨g54, 2, none⟩)), (31, .bool (decide (((x49.xPairs.ls.length : Nat) : Int) > 4))), (30, .bool (decide (((x49.xPairs.ls.length : Nat) : Int) > 4))), (29, .int .i64 ((x49.xPairs.ls.length : Nat) : Int)), (28, .slice x49.xPairs.A x49.xPairs.ls.length x49.xPairs.c), (27, .pointer (some ⟨g54, 2, none⟩)), (26, .bool (decide (((x49.xValue.length : Nat) : Int) > 16))), (25, .bool (decide (((x49.xValue.length : Nat) : Int) > 16))), (24, .int .i64 ((x49.xValue.length : Nat) : Int)), (23, .string ⟨List.toArray x49.xValue⟩), (22, .pointer (some ⟨g54, 1, none⟩)), (7, .pointer (some ⟨g54, 0, none⟩)), (21, .agg (ResultD.cells x49).toArray), (20, .pointer (some ⟨ab A1, ao A1 + k37 * 3, none⟩)), (19, .bool (decide (((k37 : Nat) : Int) < ((l1.length : Nat) : Int)))), (18, .int .i64 ((k37 : Nat) : Int)), (17, .int .i64 ((l1.length : Nat) : Int)), (16, .slice A1 l1.length c1)] _ _
 obtain ⟨H67, hi73, hq72⟩ := dm71.1 hf68
 refine sr (Kz (.bool (decide (((k63 : Nat) : Int) < ((x49.xPairs.ls.length : Nat) : Int)))) (nt (Wp.seq ?_)))
 by_cases h74 : ((k63 : Nat) : Int) < ((x49.xPairs.ls.length : Nat) : Int)
 obtain ⟨x75, hx76⟩ := rds_at (ls := x49.xPairs.ls) (i := k63) PairD.len (by decide) (H67.ro (hm1 _ (List.mem_of_getElem? hx50)).1) (by first | omega | (simp; done) | (simp; omega))
 have hd77 := drop_at hx76
 refine jT (dT h74) (sk (Wp.seq (bo (sr (fw (.pointer (some ⟨ab x49.xPairs.A, ao x49.xPairs.A + k63 * 2, none⟩)) (Yl.indexAddr (El82) rfl rfl ((H67.ro (hm1 _ (List.mem_of_getElem? hx50)).1).addr (i := k63) (by omega)) (by omega)) (fw (.agg (PairD.cells x75).toArray) (Yl.load rfl (Lds.agg (cs := (PairD.cells x75)) Tryz.isAgg86 Tryz.sizeOf86 ((H67.ro (hm1 _ (List.mem_of_getElem? hx50)).1).elem PairD.len hx76 (by decide)))) ?_))))))
 refine npw [.string ⟨List.toArray ([])⟩, .string ⟨List.toArray ([])⟩] 86 H67 ?_
 intro g78 w79 H80
 refine sto (PairD.cells x75) 0 H80 Tryz.sizeOf86 ?_
 intro w81 H82
 refine ns (Kz (.pointer (some ⟨g78, 0, none⟩)) (Lz (.string ⟨List.toArray x75.xKey⟩) H82 0 Tryz.isAgg9 ?_))
 obtain ⟨r88, hr89⟩ : ∃ q, span_CheckKey x75.xKey = q := ⟨_, rfl⟩
 obtain ⟨D83, HP84, ro85, bk86, rr87⟩ := Own.enter0 H82
 refine cl Tryz.call117 (span_CheckKey_ok _ _ x75.xKey r88 HP84 hr89) ?_
 rintro _ w90 ⟨rfl, HQ91, hk93⟩
 have H92 := bk86 _ _ HQ91
 replace hk93 : ¬ (r88 = 0) ∨ (1 ≤ x75.xKey.length ∧ x75.xKey.length ≤ 12) := hk93
 refine fw (.bool (decide (¬ (r88 = 0)))) (Yl.bool (e := !(decide (r88 = 0))) yk decide_not.symm) (Mz rfl ?_)
 by_cases h94 : r88 = 0
 refine gw (.pointer (some ⟨g78, 1, none⟩)) (dF (not_not_intro h94)) yk (gw (.string ⟨List.toArray x75.xValue⟩) (dF (not_not_intro h94)) (Yl.load rfl (Lds.one Tryz.isAgg9 (Cls.of (H92.cls (i := 0) rfl) rfl))) (gw (.int .i64 ((x75.xValue.length : Nat) : Int)) (dF (not_not_intro h94)) yk (gw (.bool (decide (((x75.xValue.length : Nat) : Int) > 16))) (dF (not_not_intro h94)) yk (fw (.bool (decide (((x75.xValue.length : Nat) : Int) > 16))) (Yl.pickF rfl (dF (not_not_intro h94)) rfl) (nt ?_)))))
 by_cases h95 : ((x75.xValue.length : Nat) : Int) > 16
 refine jT (dT h95) (sr (An rfl (rt (bR (tR (tR (bR (bR (tR (tR (bR (tR (rs ?_)))))))))))))
 have H96 := H92.pk []
 obtain rfl : _ = false := hr.symm.trans (et (bnd_of hj31) (et (iN h35) (lp_r (et (hq46) (et (congrArg (fun q => wire_mayResults_L0 q) hd53) (et (iN h59) (et (iN h61) (lpS_r (et (hq72) (et (congrArg (fun q => wire_mayResults_L1 q) hd77) (et (bnd_of hr89) (et (ip h94) (ip h95)))))))))))))
 exact ⟨rfl, H96⟩
 refine jF (dF h95) (Wp.skip (bN (Fin.then (Wp.region (fw (.int .i64 ((k63 + 1 : Nat) : Int)) (Yl.int (e := IntKind.i64.wrap (((k63 : Nat) : Int) + 1)) yk (by rw [IntWalk.i64_in _ (by omega)]; omega)) (Mz rfl (WL.nil ?_)))))))
 have H97 := H92.pk [1]
 exact Fin.round (k63 + 1) ⟨rfl, rfl, rfl, rfl, rfl, rfl, rfl, rfl, rfl, rfl, rfl, rfl, rfl, rfl, rfl, rfl, rfl, rfl, rfl, rfl, rfl, rfl, trivial⟩ (dm71.2 ⟨H97, by omega, et (hq72) (et (congrArg (fun q => wire_mayResults_L1 q) hd77) (et (bnd_of hr89) (et (ip h94) (iN h95))))⟩) (by show x49.xPairs.ls.length - (k63 + 1) < x49.xPairs.ls.length - k63; omega)
 refine Sz (dT h94) (Sz (dT h94) (Sz (dT h94) (Sz (dT h94) (fw (.bool true) (Yl.pickT rfl (dT h94) rfl) (nt (jt (sr (An rfl (rt (bR (tR (tR (bR (bR (tR (tR (bR (tR (rs ?_)))))))))))))))))))
 have H98 := H92.pk []
 obtain rfl : _ = false := hr.symm.trans (et (bnd_of hj31) (et (iN h35) (lp_r (et (hq46) (et (congrArg (fun q => wire_mayResults_L0 q) hd53) (et (iN h59) (et (iN h61) (lpS_r (et (hq72) (et (congrArg (fun q => wire_mayResults_L1 q) hd77) (et (bnd_of hr89) (iN h94))))))))))))
 exact ⟨rfl, H98⟩
 refine jF (dF h74) (Wp.exit (Fin.thenX ?_))
 have hL99 : wire_mayResults_L1 x49.xPairs.ls = Sum.inl () := et (hq72) (et (congrArg (fun q => wire_mayResults_L1 q) (drop_end (ls := x49.xPairs.ls) (i := k63) (by omega))) rfl)
 refine Fin.thenX (Fin.blockX (bN (Fin.then (Wp.region (fw (.int .i64 ((k37 + 1 : Nat) : Int)) (Yl.int (e := IntKind.i64.wrap (((k37 : Nat) : Int) + 1)) yk (by rw [IntWalk.i64_in _ (by omega)]; omega)) (Mz rfl (WL.nil ?_)))))))
 have H100 := H67.pk []
 exact Fin.round (k37 + 1) ⟨rfl, rfl, rfl, rfl, trivial⟩ (dm45.2 ⟨H100, by omega, et (hq46) (et (congrArg (fun q => wire_mayResults_L0 q) hd53) (et (iN h59) (et (iN h61) (lpS_l hL99))))⟩) (by show l1.length - (k37 + 1) < l1.length - k37; omega)
 refine jF (dF h48) (Wp.exit (Fin.thenX ?_))
 have hL101 : wire_mayResults_L0 l1 = Sum.inl () := et (hq46) (et (congrArg (fun q => wire_mayResults_L0 q) (drop_end (ls := l1) (i := k37) (by omega))) rfl)
 refine Fin.thenX (Fin.blockX (Fin.then (sr (An rfl (rt (rs ?_))))))
 have H102 := H41.pk []
 obtain rfl : _ = true := hr.symm.trans (et (bnd_of hj31) (et (iN h35) (lp_l hL101)))
 exact ⟨rfl, H102⟩
theorem El25 : Elem Tryz.prog 25 64 6 80 := elem_of (z := .agg #[.int .i64 0, .string ⟨List.toArray ([])⟩, .string ⟨List.toArray ([])⟩, .string ⟨List.toArray ([])⟩, .string ⟨List.toArray ([])⟩, .int .i64 0]) Tryz.underlying25 (by kernel_rfl) rfl (by decide)
structure OpD where
 xKind : Int
 xKey : List UInt8
 xValue : List UInt8
 xLo : List UInt8
 xHi : List UInt8
 xMost : Int
def OpD.cells (x : OpD) : List Value := [.int .i64 x.xKind, .string ⟨List.toArray x.xKey⟩, .string ⟨List.toArray x.xValue⟩, .string ⟨List.toArray x.xLo⟩, .string ⟨List.toArray x.xHi⟩, .int .i64 x.xMost]
instance : Bk OpD := ⟨fun x _ => bk x.xKind + (bk x.xKey + (bk x.xValue + (bk x.xLo + (bk x.xHi + (bk x.xMost + (0))))))⟩
theorem OpD.len : ∀ x, (OpD.cells x).length = 6 := fun _ => rfl
theorem OpD.one : ∀ x, ∀ u ∈ OpD.cells x, u.oneCell' = true := fun x u hu => by
 simp only [OpD.cells, List.mem_cons, List.not_mem_nil, or_false] at hu
 rcases hu with rfl | rfl | rfl | rfl | rfl | rfl <;> rfl
def OpD.Ok (w : World) (x : OpD) : Prop := ((-9223372036854775808) ≤ x.xKind ∧ x.xKind ≤ 9223372036854775807) ∧ (x.xKey.length ≤ 140737488351232) ∧ (x.xValue.length ≤ 140737488351232) ∧ (x.xLo.length ≤ 140737488351232) ∧ (x.xHi.length ≤ 140737488351232) ∧ ((-9223372036854775808) ≤ x.xMost ∧ x.xMost ≤ 9223372036854775807)
set_option maxRecDepth 100000 in
theorem opens_OpD (w : World) : Opens Tryz.prog w 64 6 OpD.cells (OpD.Ok w) :=
 (opens_struct (sz := 6) Tryz.underlying64 (by kernel_rfl) (OpensF.cons (i := 0) (off := 0) (s := 1) rfl rfl (opens_int (k := .i64) (lo := -9223372036854775808) (hi := 9223372036854775807) Tryz.underlying3 (by kernel_rfl) (by decide) (by decide)) (OpensF.cons (i := 1) (off := 1) (s := 1) rfl rfl (opens_string Tryz.underlying9 (by kernel_rfl)) (OpensF.cons (i := 2) (off := 2) (s := 1) rfl rfl (opens_string Tryz.underlying9 (by kernel_rfl)) (OpensF.cons (i := 3) (off := 3) (s := 1) rfl rfl (opens_string Tryz.underlying9 (by kernel_rfl)) (OpensF.cons (i := 4) (off := 4) (s := 1) rfl rfl (opens_string Tryz.underlying9 (by kernel_rfl)) (OpensF.cons (i := 5) (off := 5) (s := 1) rfl rfl (opens_int (k := .i64) (lo := -9223372036854775808) (hi := 9223372036854775807) Tryz.underlying3 (by kernel_rfl) (by decide) (by decide)) OpensF.nil))))))).map (fun p => ⟨p.1, p.2.1, p.2.2.1, p.2.2.2.1, p.2.2.2.2.1, p.2.2.2.2.2.1⟩) OpD.len (fun _ => rfl) (fun _ h => ⟨h.1, h.2.1, h.2.2.1, h.2.2.2.1, h.2.2.2.2.1, h.2.2.2.2.2.1⟩) fun _ => Nat.le_refl _
instance : Inhabited OpD := ⟨⟨default, default, default, default, default, default⟩⟩
set_option maxRecDepth 100000 in
theorem op_kindOf_1_ok (w : World) (D : Nat → Prop) (p0 : Int) (H : Own w D w []) (hp0 : p0 = 1) :
    Calls Tryz.prog 126 #[.int .i64 p0] w (Ret fun v w' => v = .tuple #[.agg #[.bool false, .func (.func 128) #[] #[], .func (.func 129) #[] #[], .func (.func 130) #[] #[], .func (.func 131) #[] #[]], .bool true] ∧ Own w D w' []) := by
 subst hp0
 refine Calls.body (args := [.int .i64 1]) Tryz.func126 rfl rfl rfl ?_
 show Wp _ _ _ [(0, .int .i64 1)] _ _
 refine sr ?_
 refine npw [.bool false, .nilFunc, .nilFunc, .nilFunc, .nilFunc] 162 H ?_
 intro g21 w22 H23
 refine Ar rfl (Kz (.agg #[.bool false, .func (.func 128) #[] #[], .func (.func 129) #[] #[], .func (.func 130) #[] #[], .func (.func 131) #[] #[]]) (Kz (.agg #[.bool true, .func (.func 132) #[] #[], .func (.func 133) #[] #[], .func (.func 130) #[] #[], .func (.func 134) #[] #[]]) (Kz (.agg #[.bool true, .func (.func 128) #[] #[], .func (.func 129) #[] #[], .func (.func 130) #[] #[], .func (.func 135) #[] #[]]) (Kz (.agg #[.bool false, .func (.func 136) #[] #[], .func (.func 137) #[] #[], .func (.func 138) #[] #[], .func (.func 139) #[] #[]]) (Kz (.agg #[.bool true, .func (.func 140) #[] #[], .func (.func 141) #[] #[], .func (.func 138) #[] #[], .func (.func 142) #[] #[]]) (Kz (.agg #[.bool false, .nilFunc, .nilFunc, .nilFunc, .nilFunc, .bool false, .func (.func 128) #[] #[], .func (.func 129) #[] #[], .func (.func 130) #[] #[], .func (.func 131) #[] #[], .bool true, .func (.func 132) #[] #[], .func (.func 133) #[] #[], .func (.func 130) #[] #[], .func (.func 134) #[] #[], .bool true, .func (.func 128) #[] #[], .func (.func 129) #[] #[], .func (.func 130) #[] #[], .func (.func 135) #[] #[], .bool false, .func (.func 136) #[] #[], .func (.func 137) #[] #[], .func (.func 138) #[] #[], .func (.func 139) #[] #[], .bool true, .func (.func 140) #[] #[], .func (.func 141) #[] #[], .func (.func 138) #[] #[], .func (.func 142) #[] #[]]) ?_))))))
 refine npw [.bool false, .nilFunc, .nilFunc, .nilFunc, .nilFunc, .bool false, .nilFunc, .nilFunc, .nilFunc, .nilFunc, .bool false, .nilFunc, .nilFunc, .nilFunc, .nilFunc, .bool false, .nilFunc, .nilFunc, .nilFunc, .nilFunc, .bool false, .nilFunc, .nilFunc, .nilFunc, .nilFunc, .bool false, .nilFunc, .nilFunc, .nilFunc, .nilFunc] 165 H23 ?_
 intro g24 w25 H26
 refine sto [.bool false, .nilFunc, .nilFunc, .nilFunc, .nilFunc, .bool false, .func (.func 128) #[] #[], .func (.func 129) #[] #[], .func (.func 130) #[] #[], .func (.func 131) #[] #[], .bool true, .func (.func 132) #[] #[], .func (.func 133) #[] #[], .func (.func 130) #[] #[], .func (.func 134) #[] #[], .bool true, .func (.func 128) #[] #[], .func (.func 129) #[] #[], .func (.func 130) #[] #[], .func (.func 135) #[] #[], .bool false, .func (.func 136) #[] #[], .func (.func 137) #[] #[], .func (.func 138) #[] #[], .func (.func 139) #[] #[], .bool true, .func (.func 140) #[] #[], .func (.func 141) #[] #[], .func (.func 138) #[] #[], .func (.func 142) #[] #[]] 0 H26 Tryz.sizeOf165 ?_
 intro w27 H28
 refine nt (Wp.seq (sr (Mz rfl (Kz (.bool false) (Mz rfl (gw (.int .i64 1) rfl (Yl.move rfl) (Gz (.bool false) rfl (fw (.bool false) (Yl.pickF rfl rfl rfl) (nt (jf (sk (sr (Mz rfl (Kz (.pointer (some ⟨g24, 5, none⟩)) (La ([.bool false, .func (.func 128) #[] #[], .func (.func 129) #[] #[], .func (.func 130) #[] #[], .func (.func 131) #[] #[]]) H28 0 Tryz.isAgg162 Tryz.sizeOf162 ?_)))))))))))))))
 have H29 := H28.pk [1, 0]
 refine sto [.bool false, .func (.func 128) #[] #[], .func (.func 129) #[] #[], .func (.func 130) #[] #[], .func (.func 131) #[] #[]] 0 H29 Tryz.sizeOf162 ?_
 intro w30 H31
 refine An rfl (rt (Fin.res (resN (vs := [.agg #[.bool false, .func (.func 128) #[] #[], .func (.func 129) #[] #[], .func (.func 130) #[] #[], .func (.func 131) #[] #[]], .bool true]) rfl (ResV.cell rfl (Lds.agg (cs := [.bool false, .func (.func 128) #[] #[], .func (.func 129) #[] #[], .func (.func 130) #[] #[], .func (.func 131) #[] #[]]) Tryz.isAgg162 Tryz.sizeOf162 ((H31.cls (i := 0) rfl).lit (k := 0) (m := 5) rfl)) (ResV.tmp rfl ResV.nil)) (Nat.le_of_ble_eq_true rfl)) ?_))
 have H32 := H31.pk []
 exact ⟨rfl, H32⟩
def op_ownKey (p0 : OpD) : OpD :=
 OpD.mk p0.xKind p0.xKey ([]) ([]) ([]) 0
set_option maxRecDepth 100000 in
theorem op_ownKey_ok (w : World) (D : Nat → Prop) (p0 : OpD) (r0 : OpD) (H : Own w D w [])  (hr : op_ownKey p0 = r0) :
    Calls Tryz.prog 128 #[.agg (OpD.cells p0).toArray] w (Ret fun v w' => v = .agg (OpD.cells r0).toArray ∧ Own w D w' []) := by
 refine Calls.body (args := [.agg (OpD.cells p0).toArray]) Tryz.func128 rfl rfl rfl ?_
 show Wp _ _ _ [(0, .agg (OpD.cells p0).toArray)] _ _
 refine sr ?_
 refine npw (OpD.cells p0) 64 H ?_
 intro g21 w22 H23
 refine npw [.int .i64 0, .string ⟨List.toArray ([])⟩, .string ⟨List.toArray ([])⟩, .string ⟨List.toArray ([])⟩, .string ⟨List.toArray ([])⟩, .int .i64 0] 64 H23 ?_
 intro g24 w25 H26
 refine ns (Kz (.pointer (some ⟨g21, 0, none⟩)) (Lz (.int .i64 p0.xKind) H26 1 Tryz.isAgg3 (Kz (.pointer (some ⟨g21, 1, none⟩)) (Lz (.string ⟨List.toArray p0.xKey⟩) H26 1 Tryz.isAgg9 (Kz (.agg #[.int .i64 p0.xKind, .string ⟨List.toArray p0.xKey⟩, .string ⟨List.toArray ([])⟩, .string ⟨List.toArray ([])⟩, .string ⟨List.toArray ([])⟩, .int .i64 0]) ?_)))))
 refine sto [.int .i64 p0.xKind, .string ⟨List.toArray p0.xKey⟩, .string ⟨List.toArray ([])⟩, .string ⟨List.toArray ([])⟩, .string ⟨List.toArray ([])⟩, .int .i64 0] 0 H26 Tryz.sizeOf64 ?_
 intro w27 H28
 refine nt (rt (Fin.res (resC rfl rfl (Lds.agg (cs := [.int .i64 p0.xKind, .string ⟨List.toArray p0.xKey⟩, .string ⟨List.toArray ([])⟩, .string ⟨List.toArray ([])⟩, .string ⟨List.toArray ([])⟩, .int .i64 0]) Tryz.isAgg64 Tryz.sizeOf64 ((H28.cls (i := 0) rfl).lit (k := 0) (m := 6) rfl))) ?_))
 have H29 := H28.pk []
 obtain rfl : _ = OpD.mk p0.xKind p0.xKey ([]) ([]) ([]) 0 := hr.symm.trans rfl
 exact ⟨rfl, H29⟩
def op_checkKey (p0 : OpD) : Int :=
 bnd (span_CheckKey p0.xKey) fun yr29 => yr29
set_option maxRecDepth 100000 in
theorem op_checkKey_ok (w : World) (D : Nat → Prop) (p0 : OpD) (r0 : Int) (H : Own w D w [])  (hr : op_checkKey p0 = r0) :
    Calls Tryz.prog 129 #[.agg (OpD.cells p0).toArray] w (Ret fun v w' => v = .int .i64 r0 ∧ Own w D w' []) := by
 refine Calls.body (args := [.agg (OpD.cells p0).toArray]) Tryz.func129 rfl rfl rfl ?_
 show Wp _ _ _ [(0, .agg (OpD.cells p0).toArray)] _ _
 refine sr ?_
 refine npw (OpD.cells p0) 64 H ?_
 intro g21 w22 H23
 refine Ar rfl (Kz (.pointer (some ⟨g21, 1, none⟩)) (Lz (.string ⟨List.toArray p0.xKey⟩) H23 0 Tryz.isAgg9 ?_))
 obtain ⟨r29, hr30⟩ : ∃ q, span_CheckKey p0.xKey = q := ⟨_, rfl⟩
 obtain ⟨D24, HP25, ro26, bk27, rr28⟩ := Own.enter0 H23
 refine cl Tryz.call117 (span_CheckKey_ok _ _ p0.xKey r29 HP25 hr30) ?_
 rintro _ w31 ⟨rfl, HQ32, hk34⟩
 have H33 := bk27 _ _ HQ32
 replace hk34 : ¬ (r29 = 0) ∨ (1 ≤ p0.xKey.length ∧ p0.xKey.length ≤ 12) := hk34
 refine An rfl (rt (rs ?_))
 have H35 := H33.pk []
 obtain rfl : _ = r29 := hr.symm.trans (bnd_of hr30)
 exact ⟨rfl, H35⟩
set_option maxRecDepth 100000 in
theorem op_kindOf_2_ok (w : World) (D : Nat → Prop) (p0 : Int) (H : Own w D w []) (hp0 : p0 = 2) :
    Calls Tryz.prog 126 #[.int .i64 p0] w (Ret fun v w' => v = .tuple #[.agg #[.bool true, .func (.func 132) #[] #[], .func (.func 133) #[] #[], .func (.func 130) #[] #[], .func (.func 134) #[] #[]], .bool true] ∧ Own w D w' []) := by
 subst hp0
 refine Calls.body (args := [.int .i64 2]) Tryz.func126 rfl rfl rfl ?_
 show Wp _ _ _ [(0, .int .i64 2)] _ _
 refine sr ?_
 refine npw [.bool false, .nilFunc, .nilFunc, .nilFunc, .nilFunc] 162 H ?_
 intro g21 w22 H23
 refine Ar rfl (Kz (.agg #[.bool false, .func (.func 128) #[] #[], .func (.func 129) #[] #[], .func (.func 130) #[] #[], .func (.func 131) #[] #[]]) (Kz (.agg #[.bool true, .func (.func 132) #[] #[], .func (.func 133) #[] #[], .func (.func 130) #[] #[], .func (.func 134) #[] #[]]) (Kz (.agg #[.bool true, .func (.func 128) #[] #[], .func (.func 129) #[] #[], .func (.func 130) #[] #[], .func (.func 135) #[] #[]]) (Kz (.agg #[.bool false, .func (.func 136) #[] #[], .func (.func 137) #[] #[], .func (.func 138) #[] #[], .func (.func 139) #[] #[]]) (Kz (.agg #[.bool true, .func (.func 140) #[] #[], .func (.func 141) #[] #[], .func (.func 138) #[] #[], .func (.func 142) #[] #[]]) (Kz (.agg #[.bool false, .nilFunc, .nilFunc, .nilFunc, .nilFunc, .bool false, .func (.func 128) #[] #[], .func (.func 129) #[] #[], .func (.func 130) #[] #[], .func (.func 131) #[] #[], .bool true, .func (.func 132) #[] #[], .func (.func 133) #[] #[], .func (.func 130) #[] #[], .func (.func 134) #[] #[], .bool true, .func (.func 128) #[] #[], .func (.func 129) #[] #[], .func (.func 130) #[] #[], .func (.func 135) #[] #[], .bool false, .func (.func 136) #[] #[], .func (.func 137) #[] #[], .func (.func 138) #[] #[], .func (.func 139) #[] #[], .bool true, .func (.func 140) #[] #[], .func (.func 141) #[] #[], .func (.func 138) #[] #[], .func (.func 142) #[] #[]]) ?_))))))
 refine npw [.bool false, .nilFunc, .nilFunc, .nilFunc, .nilFunc, .bool false, .nilFunc, .nilFunc, .nilFunc, .nilFunc, .bool false, .nilFunc, .nilFunc, .nilFunc, .nilFunc, .bool false, .nilFunc, .nilFunc, .nilFunc, .nilFunc, .bool false, .nilFunc, .nilFunc, .nilFunc, .nilFunc, .bool false, .nilFunc, .nilFunc, .nilFunc, .nilFunc] 165 H23 ?_
 intro g24 w25 H26
 refine sto [.bool false, .nilFunc, .nilFunc, .nilFunc, .nilFunc, .bool false, .func (.func 128) #[] #[], .func (.func 129) #[] #[], .func (.func 130) #[] #[], .func (.func 131) #[] #[], .bool true, .func (.func 132) #[] #[], .func (.func 133) #[] #[], .func (.func 130) #[] #[], .func (.func 134) #[] #[], .bool true, .func (.func 128) #[] #[], .func (.func 129) #[] #[], .func (.func 130) #[] #[], .func (.func 135) #[] #[], .bool false, .func (.func 136) #[] #[], .func (.func 137) #[] #[], .func (.func 138) #[] #[], .func (.func 139) #[] #[], .bool true, .func (.func 140) #[] #[], .func (.func 141) #[] #[], .func (.func 138) #[] #[], .func (.func 142) #[] #[]] 0 H26 Tryz.sizeOf165 ?_
 intro w27 H28
 refine nt (Wp.seq (sr (Mz rfl (Kz (.bool false) (Mz rfl (gw (.int .i64 2) rfl (Yl.move rfl) (Gz (.bool false) rfl (fw (.bool false) (Yl.pickF rfl rfl rfl) (nt (jf (sk (sr (Mz rfl (Kz (.pointer (some ⟨g24, 10, none⟩)) (La ([.bool true, .func (.func 132) #[] #[], .func (.func 133) #[] #[], .func (.func 130) #[] #[], .func (.func 134) #[] #[]]) H28 0 Tryz.isAgg162 Tryz.sizeOf162 ?_)))))))))))))))
 have H29 := H28.pk [1, 0]
 refine sto [.bool true, .func (.func 132) #[] #[], .func (.func 133) #[] #[], .func (.func 130) #[] #[], .func (.func 134) #[] #[]] 0 H29 Tryz.sizeOf162 ?_
 intro w30 H31
 refine An rfl (rt (Fin.res (resN (vs := [.agg #[.bool true, .func (.func 132) #[] #[], .func (.func 133) #[] #[], .func (.func 130) #[] #[], .func (.func 134) #[] #[]], .bool true]) rfl (ResV.cell rfl (Lds.agg (cs := [.bool true, .func (.func 132) #[] #[], .func (.func 133) #[] #[], .func (.func 130) #[] #[], .func (.func 134) #[] #[]]) Tryz.isAgg162 Tryz.sizeOf162 ((H31.cls (i := 0) rfl).lit (k := 0) (m := 5) rfl)) (ResV.tmp rfl ResV.nil)) (Nat.le_of_ble_eq_true rfl)) ?_))
 have H32 := H31.pk []
 exact ⟨rfl, H32⟩
def op_ownPair (p0 : OpD) : OpD :=
 OpD.mk p0.xKind p0.xKey p0.xValue ([]) ([]) 0
set_option maxRecDepth 100000 in
theorem op_ownPair_ok (w : World) (D : Nat → Prop) (p0 : OpD) (r0 : OpD) (H : Own w D w [])  (hr : op_ownPair p0 = r0) :
    Calls Tryz.prog 132 #[.agg (OpD.cells p0).toArray] w (Ret fun v w' => v = .agg (OpD.cells r0).toArray ∧ Own w D w' []) := by
 refine Calls.body (args := [.agg (OpD.cells p0).toArray]) Tryz.func132 rfl rfl rfl ?_
 show Wp _ _ _ [(0, .agg (OpD.cells p0).toArray)] _ _
 refine sr ?_
 refine npw (OpD.cells p0) 64 H ?_
 intro g21 w22 H23
 refine npw [.int .i64 0, .string ⟨List.toArray ([])⟩, .string ⟨List.toArray ([])⟩, .string ⟨List.toArray ([])⟩, .string ⟨List.toArray ([])⟩, .int .i64 0] 64 H23 ?_
 intro g24 w25 H26
 refine ns (Kz (.pointer (some ⟨g21, 0, none⟩)) (Lz (.int .i64 p0.xKind) H26 1 Tryz.isAgg3 (Kz (.pointer (some ⟨g21, 1, none⟩)) (Lz (.string ⟨List.toArray p0.xKey⟩) H26 1 Tryz.isAgg9 (Kz (.pointer (some ⟨g21, 2, none⟩)) (Lz (.string ⟨List.toArray p0.xValue⟩) H26 1 Tryz.isAgg9 (Kz (.agg #[.int .i64 p0.xKind, .string ⟨List.toArray p0.xKey⟩, .string ⟨List.toArray p0.xValue⟩, .string ⟨List.toArray ([])⟩, .string ⟨List.toArray ([])⟩, .int .i64 0]) ?_)))))))
 refine sto [.int .i64 p0.xKind, .string ⟨List.toArray p0.xKey⟩, .string ⟨List.toArray p0.xValue⟩, .string ⟨List.toArray ([])⟩, .string ⟨List.toArray ([])⟩, .int .i64 0] 0 H26 Tryz.sizeOf64 ?_
 intro w27 H28
 refine nt (rt (Fin.res (resC rfl rfl (Lds.agg (cs := [.int .i64 p0.xKind, .string ⟨List.toArray p0.xKey⟩, .string ⟨List.toArray p0.xValue⟩, .string ⟨List.toArray ([])⟩, .string ⟨List.toArray ([])⟩, .int .i64 0]) Tryz.isAgg64 Tryz.sizeOf64 ((H28.cls (i := 0) rfl).lit (k := 0) (m := 6) rfl))) ?_))
 have H29 := H28.pk []
 obtain rfl : _ = OpD.mk p0.xKind p0.xKey p0.xValue ([]) ([]) 0 := hr.symm.trans rfl
 exact ⟨rfl, H29⟩
def op_checkValue (p0 : List UInt8) : Int :=
 if ((p0.length : Nat) : Int) > 16 then 2 else 0
set_option maxRecDepth 100000 in
theorem op_checkValue_ok (w : World) (D : Nat → Prop) (p0 : List UInt8) (r0 : Int) (H : Own w D w [])  (hr : op_checkValue p0 = r0) :
    Calls Tryz.prog 145 #[.string ⟨List.toArray p0⟩] w (Ret fun v w' => v = .int .i64 r0 ∧ Own w D w' []) := by
 refine Calls.body (args := [.string ⟨List.toArray p0⟩]) Tryz.func145 rfl rfl rfl ?_
 show Wp _ _ _ [(0, .string ⟨List.toArray p0⟩)] _ _
 refine sr (An rfl (Wp.seq (sr (Mz rfl (Kz (.int .i64 ((p0.length : Nat) : Int)) (Kz (.bool (decide (((p0.length : Nat) : Int) > 16))) (nt ?_)))))))
 by_cases h21 : ((p0.length : Nat) : Int) > 16
 refine jT (dT h21) (sr (An rfl (rt (tR (rs ?_)))))
 have H22 : Own w D w [] := H.pk []
 obtain rfl : _ = 2 := hr.symm.trans (ip h21)
 exact ⟨rfl, H22⟩
 refine jF (dF h21) (sk (sr (An rfl (rt (rs ?_)))))
 have H23 : Own w D w [] := H.pk []
 obtain rfl : _ = 0 := hr.symm.trans (iN h21)
 exact ⟨rfl, H23⟩
def op_checkPair (p0 : OpD) : Int :=
 bnd (span_CheckKey p0.xKey) fun yr29 => if yr29 = 0 then bnd (op_checkValue p0.xValue) fun yr41 => yr41 else yr29
set_option maxRecDepth 100000 in
theorem op_checkPair_ok (w : World) (D : Nat → Prop) (p0 : OpD) (r0 : Int) (H : Own w D w [])  (hr : op_checkPair p0 = r0) :
    Calls Tryz.prog 133 #[.agg (OpD.cells p0).toArray] w (Ret fun v w' => v = .int .i64 r0 ∧ Own w D w' []) := by
 refine Calls.body (args := [.agg (OpD.cells p0).toArray]) Tryz.func133 rfl rfl rfl ?_
 show Wp _ _ _ [(0, .agg (OpD.cells p0).toArray)] _ _
 refine sr ?_
 refine npw (OpD.cells p0) 64 H ?_
 intro g21 w22 H23
 refine An rfl (Wp.seq (sr (Kz (.pointer (some ⟨g21, 1, none⟩)) (Lz (.string ⟨List.toArray p0.xKey⟩) H23 0 Tryz.isAgg9 ?_))))
 obtain ⟨r29, hr30⟩ : ∃ q, span_CheckKey p0.xKey = q := ⟨_, rfl⟩
 obtain ⟨D24, HP25, ro26, bk27, rr28⟩ := Own.enter0 H23
 refine cl Tryz.call117 (span_CheckKey_ok _ _ p0.xKey r29 HP25 hr30) ?_
 rintro _ w31 ⟨rfl, HQ32, hk34⟩
 have H33 := bk27 _ _ HQ32
 replace hk34 : ¬ (r29 = 0) ∨ (1 ≤ p0.xKey.length ∧ p0.xKey.length ≤ 12) := hk34
 refine Ar rfl (Mz rfl (fw (.bool (decide (¬ (r29 = 0)))) (Yl.bool (e := !(decide (r29 = 0))) yk decide_not.symm) (nt ?_)))
 by_cases h35 : r29 = 0
 refine jF (dF (not_not_intro h35)) (sk (sr (Kz (.pointer (some ⟨g21, 2, none⟩)) (Lz (.string ⟨List.toArray p0.xValue⟩) H33 0 Tryz.isAgg9 ?_))))
 obtain ⟨r41, hr42⟩ : ∃ q, op_checkValue p0.xValue = q := ⟨_, rfl⟩
 obtain ⟨D36, HP37, ro38, bk39, rr40⟩ := Own.enter0 H33
 refine cl Tryz.call145 (op_checkValue_ok _ _ p0.xValue r41 HP37 hr42) ?_
 rintro _ w43 ⟨rfl, HQ44⟩
 have H45 := bk39 _ _ HQ44
 refine An rfl (rt (rs ?_))
 have H46 := H45.pk []
 obtain rfl : _ = r41 := hr.symm.trans (et (bnd_of hr30) (et (ip h35) (bnd_of hr42)))
 exact ⟨rfl, H46⟩
 refine jT (dT h35) (sr (Mz rfl (An rfl (rt (tR (rs ?_))))))
 have H47 := H33.pk []
 obtain rfl : _ = r29 := hr.symm.trans (et (bnd_of hr30) (iN h35))
 exact ⟨rfl, H47⟩
set_option maxRecDepth 100000 in
theorem op_kindOf_3_ok (w : World) (D : Nat → Prop) (p0 : Int) (H : Own w D w []) (hp0 : p0 = 3) :
    Calls Tryz.prog 126 #[.int .i64 p0] w (Ret fun v w' => v = .tuple #[.agg #[.bool true, .func (.func 128) #[] #[], .func (.func 129) #[] #[], .func (.func 130) #[] #[], .func (.func 135) #[] #[]], .bool true] ∧ Own w D w' []) := by
 subst hp0
 refine Calls.body (args := [.int .i64 3]) Tryz.func126 rfl rfl rfl ?_
 show Wp _ _ _ [(0, .int .i64 3)] _ _
 refine sr ?_
 refine npw [.bool false, .nilFunc, .nilFunc, .nilFunc, .nilFunc] 162 H ?_
 intro g21 w22 H23
 refine Ar rfl (Kz (.agg #[.bool false, .func (.func 128) #[] #[], .func (.func 129) #[] #[], .func (.func 130) #[] #[], .func (.func 131) #[] #[]]) (Kz (.agg #[.bool true, .func (.func 132) #[] #[], .func (.func 133) #[] #[], .func (.func 130) #[] #[], .func (.func 134) #[] #[]]) (Kz (.agg #[.bool true, .func (.func 128) #[] #[], .func (.func 129) #[] #[], .func (.func 130) #[] #[], .func (.func 135) #[] #[]]) (Kz (.agg #[.bool false, .func (.func 136) #[] #[], .func (.func 137) #[] #[], .func (.func 138) #[] #[], .func (.func 139) #[] #[]]) (Kz (.agg #[.bool true, .func (.func 140) #[] #[], .func (.func 141) #[] #[], .func (.func 138) #[] #[], .func (.func 142) #[] #[]]) (Kz (.agg #[.bool false, .nilFunc, .nilFunc, .nilFunc, .nilFunc, .bool false, .func (.func 128) #[] #[], .func (.func 129) #[] #[], .func (.func 130) #[] #[], .func (.func 131) #[] #[], .bool true, .func (.func 132) #[] #[], .func (.func 133) #[] #[], .func (.func 130) #[] #[], .func (.func 134) #[] #[], .bool true, .func (.func 128) #[] #[], .func (.func 129) #[] #[], .func (.func 130) #[] #[], .func (.func 135) #[] #[], .bool false, .func (.func 136) #[] #[], .func (.func 137) #[] #[], .func (.func 138) #[] #[], .func (.func 139) #[] #[], .bool true, .func (.func 140) #[] #[], .func (.func 141) #[] #[], .func (.func 138) #[] #[], .func (.func 142) #[] #[]]) ?_))))))
 refine npw [.bool false, .nilFunc, .nilFunc, .nilFunc, .nilFunc, .bool false, .nilFunc, .nilFunc, .nilFunc, .nilFunc, .bool false, .nilFunc, .nilFunc, .nilFunc, .nilFunc, .bool false, .nilFunc, .nilFunc, .nilFunc, .nilFunc, .bool false, .nilFunc, .nilFunc, .nilFunc, .nilFunc, .bool false, .nilFunc, .nilFunc, .nilFunc, .nilFunc] 165 H23 ?_
 intro g24 w25 H26
 refine sto [.bool false, .nilFunc, .nilFunc, .nilFunc, .nilFunc, .bool false, .func (.func 128) #[] #[], .func (.func 129) #[] #[], .func (.func 130) #[] #[], .func (.func 131) #[] #[], .bool true, .func (.func 132) #[] #[], .func (.func 133) #[] #[], .func (.func 130) #[] #[], .func (.func 134) #[] #[], .bool true, .func (.func 128) #[] #[], .func (.func 129) #[] #[], .func (.func 130) #[] #[], .func (.func 135) #[] #[], .bool false, .func (.func 136) #[] #[], .func (.func 137) #[] #[], .func (.func 138) #[] #[], .func (.func 139) #[] #[], .bool true, .func (.func 140) #[] #[], .func (.func 141) #[] #[], .func (.func 138) #[] #[], .func (.func 142) #[] #[]] 0 H26 Tryz.sizeOf165 ?_
 intro w27 H28
 refine nt (Wp.seq (sr (Mz rfl (Kz (.bool false) (Mz rfl (gw (.int .i64 3) rfl (Yl.move rfl) (Gz (.bool false) rfl (fw (.bool false) (Yl.pickF rfl rfl rfl) (nt (jf (sk (sr (Mz rfl (Kz (.pointer (some ⟨g24, 15, none⟩)) (La ([.bool true, .func (.func 128) #[] #[], .func (.func 129) #[] #[], .func (.func 130) #[] #[], .func (.func 135) #[] #[]]) H28 0 Tryz.isAgg162 Tryz.sizeOf162 ?_)))))))))))))))
 have H29 := H28.pk [1, 0]
 refine sto [.bool true, .func (.func 128) #[] #[], .func (.func 129) #[] #[], .func (.func 130) #[] #[], .func (.func 135) #[] #[]] 0 H29 Tryz.sizeOf162 ?_
 intro w30 H31
 refine An rfl (rt (Fin.res (resN (vs := [.agg #[.bool true, .func (.func 128) #[] #[], .func (.func 129) #[] #[], .func (.func 130) #[] #[], .func (.func 135) #[] #[]], .bool true]) rfl (ResV.cell rfl (Lds.agg (cs := [.bool true, .func (.func 128) #[] #[], .func (.func 129) #[] #[], .func (.func 130) #[] #[], .func (.func 135) #[] #[]]) Tryz.isAgg162 Tryz.sizeOf162 ((H31.cls (i := 0) rfl).lit (k := 0) (m := 5) rfl)) (ResV.tmp rfl ResV.nil)) (Nat.le_of_ble_eq_true rfl)) ?_))
 have H32 := H31.pk []
 exact ⟨rfl, H32⟩
set_option maxRecDepth 100000 in
theorem op_kindOf_4_ok (w : World) (D : Nat → Prop) (p0 : Int) (H : Own w D w []) (hp0 : p0 = 4) :
    Calls Tryz.prog 126 #[.int .i64 p0] w (Ret fun v w' => v = .tuple #[.agg #[.bool false, .func (.func 136) #[] #[], .func (.func 137) #[] #[], .func (.func 138) #[] #[], .func (.func 139) #[] #[]], .bool true] ∧ Own w D w' []) := by
 subst hp0
 refine Calls.body (args := [.int .i64 4]) Tryz.func126 rfl rfl rfl ?_
 show Wp _ _ _ [(0, .int .i64 4)] _ _
 refine sr ?_
 refine npw [.bool false, .nilFunc, .nilFunc, .nilFunc, .nilFunc] 162 H ?_
 intro g21 w22 H23
 refine Ar rfl (Kz (.agg #[.bool false, .func (.func 128) #[] #[], .func (.func 129) #[] #[], .func (.func 130) #[] #[], .func (.func 131) #[] #[]]) (Kz (.agg #[.bool true, .func (.func 132) #[] #[], .func (.func 133) #[] #[], .func (.func 130) #[] #[], .func (.func 134) #[] #[]]) (Kz (.agg #[.bool true, .func (.func 128) #[] #[], .func (.func 129) #[] #[], .func (.func 130) #[] #[], .func (.func 135) #[] #[]]) (Kz (.agg #[.bool false, .func (.func 136) #[] #[], .func (.func 137) #[] #[], .func (.func 138) #[] #[], .func (.func 139) #[] #[]]) (Kz (.agg #[.bool true, .func (.func 140) #[] #[], .func (.func 141) #[] #[], .func (.func 138) #[] #[], .func (.func 142) #[] #[]]) (Kz (.agg #[.bool false, .nilFunc, .nilFunc, .nilFunc, .nilFunc, .bool false, .func (.func 128) #[] #[], .func (.func 129) #[] #[], .func (.func 130) #[] #[], .func (.func 131) #[] #[], .bool true, .func (.func 132) #[] #[], .func (.func 133) #[] #[], .func (.func 130) #[] #[], .func (.func 134) #[] #[], .bool true, .func (.func 128) #[] #[], .func (.func 129) #[] #[], .func (.func 130) #[] #[], .func (.func 135) #[] #[], .bool false, .func (.func 136) #[] #[], .func (.func 137) #[] #[], .func (.func 138) #[] #[], .func (.func 139) #[] #[], .bool true, .func (.func 140) #[] #[], .func (.func 141) #[] #[], .func (.func 138) #[] #[], .func (.func 142) #[] #[]]) ?_))))))
 refine npw [.bool false, .nilFunc, .nilFunc, .nilFunc, .nilFunc, .bool false, .nilFunc, .nilFunc, .nilFunc, .nilFunc, .bool false, .nilFunc, .nilFunc, .nilFunc, .nilFunc, .bool false, .nilFunc, .nilFunc, .nilFunc, .nilFunc, .bool false, .nilFunc, .nilFunc, .nilFunc, .nilFunc, .bool false, .nilFunc, .nilFunc, .nilFunc, .nilFunc] 165 H23 ?_
 intro g24 w25 H26
 refine sto [.bool false, .nilFunc, .nilFunc, .nilFunc, .nilFunc, .bool false, .func (.func 128) #[] #[], .func (.func 129) #[] #[], .func (.func 130) #[] #[], .func (.func 131) #[] #[], .bool true, .func (.func 132) #[] #[], .func (.func 133) #[] #[], .func (.func 130) #[] #[], .func (.func 134) #[] #[], .bool true, .func (.func 128) #[] #[], .func (.func 129) #[] #[], .func (.func 130) #[] #[], .func (.func 135) #[] #[], .bool false, .func (.func 136) #[] #[], .func (.func 137) #[] #[], .func (.func 138) #[] #[], .func (.func 139) #[] #[], .bool true, .func (.func 140) #[] #[], .func (.func 141) #[] #[], .func (.func 138) #[] #[], .func (.func 142) #[] #[]] 0 H26 Tryz.sizeOf165 ?_
 intro w27 H28
 refine nt (Wp.seq (sr (Mz rfl (Kz (.bool false) (Mz rfl (gw (.int .i64 4) rfl (Yl.move rfl) (Gz (.bool false) rfl (fw (.bool false) (Yl.pickF rfl rfl rfl) (nt (jf (sk (sr (Mz rfl (Kz (.pointer (some ⟨g24, 20, none⟩)) (La ([.bool false, .func (.func 136) #[] #[], .func (.func 137) #[] #[], .func (.func 138) #[] #[], .func (.func 139) #[] #[]]) H28 0 Tryz.isAgg162 Tryz.sizeOf162 ?_)))))))))))))))
 have H29 := H28.pk [1, 0]
 refine sto [.bool false, .func (.func 136) #[] #[], .func (.func 137) #[] #[], .func (.func 138) #[] #[], .func (.func 139) #[] #[]] 0 H29 Tryz.sizeOf162 ?_
 intro w30 H31
 refine An rfl (rt (Fin.res (resN (vs := [.agg #[.bool false, .func (.func 136) #[] #[], .func (.func 137) #[] #[], .func (.func 138) #[] #[], .func (.func 139) #[] #[]], .bool true]) rfl (ResV.cell rfl (Lds.agg (cs := [.bool false, .func (.func 136) #[] #[], .func (.func 137) #[] #[], .func (.func 138) #[] #[], .func (.func 139) #[] #[]]) Tryz.isAgg162 Tryz.sizeOf162 ((H31.cls (i := 0) rfl).lit (k := 0) (m := 5) rfl)) (ResV.tmp rfl ResV.nil)) (Nat.le_of_ble_eq_true rfl)) ?_))
 have H32 := H31.pk []
 exact ⟨rfl, H32⟩
def op_ownScan (p0 : OpD) : OpD :=
 OpD.mk p0.xKind ([]) ([]) p0.xLo p0.xHi p0.xMost
set_option maxRecDepth 100000 in
theorem op_ownScan_ok (w : World) (D : Nat → Prop) (p0 : OpD) (r0 : OpD) (H : Own w D w [])  (hr : op_ownScan p0 = r0) :
    Calls Tryz.prog 136 #[.agg (OpD.cells p0).toArray] w (Ret fun v w' => v = .agg (OpD.cells r0).toArray ∧ Own w D w' []) := by
 refine Calls.body (args := [.agg (OpD.cells p0).toArray]) Tryz.func136 rfl rfl rfl ?_
 show Wp _ _ _ [(0, .agg (OpD.cells p0).toArray)] _ _
 refine sr ?_
 refine npw (OpD.cells p0) 64 H ?_
 intro g21 w22 H23
 refine npw [.int .i64 0, .string ⟨List.toArray ([])⟩, .string ⟨List.toArray ([])⟩, .string ⟨List.toArray ([])⟩, .string ⟨List.toArray ([])⟩, .int .i64 0] 64 H23 ?_
 intro g24 w25 H26
 refine ns (Kz (.pointer (some ⟨g21, 0, none⟩)) (Lz (.int .i64 p0.xKind) H26 1 Tryz.isAgg3 (Kz (.pointer (some ⟨g21, 3, none⟩)) (Lz (.string ⟨List.toArray p0.xLo⟩) H26 1 Tryz.isAgg9 (Kz (.pointer (some ⟨g21, 4, none⟩)) (Lz (.string ⟨List.toArray p0.xHi⟩) H26 1 Tryz.isAgg9 (Kz (.pointer (some ⟨g21, 5, none⟩)) (Lz (.int .i64 p0.xMost) H26 1 Tryz.isAgg3 (Kz (.agg #[.int .i64 p0.xKind, .string ⟨List.toArray ([])⟩, .string ⟨List.toArray ([])⟩, .string ⟨List.toArray p0.xLo⟩, .string ⟨List.toArray p0.xHi⟩, .int .i64 p0.xMost]) ?_)))))))))
 refine sto [.int .i64 p0.xKind, .string ⟨List.toArray ([])⟩, .string ⟨List.toArray ([])⟩, .string ⟨List.toArray p0.xLo⟩, .string ⟨List.toArray p0.xHi⟩, .int .i64 p0.xMost] 0 H26 Tryz.sizeOf64 ?_
 intro w27 H28
 refine nt (rt (Fin.res (resC rfl rfl (Lds.agg (cs := [.int .i64 p0.xKind, .string ⟨List.toArray ([])⟩, .string ⟨List.toArray ([])⟩, .string ⟨List.toArray p0.xLo⟩, .string ⟨List.toArray p0.xHi⟩, .int .i64 p0.xMost]) Tryz.isAgg64 Tryz.sizeOf64 ((H28.cls (i := 0) rfl).lit (k := 0) (m := 6) rfl))) ?_))
 have H29 := H28.pk []
 obtain rfl : _ = OpD.mk p0.xKind ([]) ([]) p0.xLo p0.xHi p0.xMost := hr.symm.trans rfl
 exact ⟨rfl, H29⟩
structure RangeD where
 xLo : List UInt8
 xHi : List UInt8
def RangeD.cells (x : RangeD) : List Value := [.string ⟨List.toArray x.xLo⟩, .string ⟨List.toArray x.xHi⟩]
instance : Bk RangeD := ⟨fun x _ => bk x.xLo + (bk x.xHi + (0))⟩
theorem RangeD.len : ∀ x, (RangeD.cells x).length = 2 := fun _ => rfl
theorem RangeD.one : ∀ x, ∀ u ∈ RangeD.cells x, u.oneCell' = true := fun x u hu => by
 simp only [RangeD.cells, List.mem_cons, List.not_mem_nil, or_false] at hu
 rcases hu with rfl | rfl <;> rfl
def RangeD.Ok (w : World) (x : RangeD) : Prop := (x.xLo.length ≤ 140737488351232) ∧ (x.xHi.length ≤ 140737488351232)
set_option maxRecDepth 100000 in
theorem opens_RangeD (w : World) : Opens Tryz.prog w 24 2 RangeD.cells (RangeD.Ok w) :=
 (opens_struct (sz := 2) Tryz.underlying24 (by kernel_rfl) (OpensF.cons (i := 0) (off := 0) (s := 1) rfl rfl (opens_string Tryz.underlying9 (by kernel_rfl)) (OpensF.cons (i := 1) (off := 1) (s := 1) rfl rfl (opens_string Tryz.underlying9 (by kernel_rfl)) OpensF.nil))).map (fun p => ⟨p.1, p.2.1⟩) RangeD.len (fun _ => rfl) (fun _ h => ⟨h.1, h.2.1⟩) fun _ => Nat.le_refl _
instance : Inhabited RangeD := ⟨⟨default, default⟩⟩
def op_spanRange (p0 : OpD) : RangeD :=
 RangeD.mk p0.xLo p0.xHi
set_option maxRecDepth 100000 in
theorem op_spanRange_ok (w : World) (D : Nat → Prop) (p0 : OpD) (r0 : RangeD) (H : Own w D w [])  (hr : op_spanRange p0 = r0) :
    Calls Tryz.prog 138 #[.agg (OpD.cells p0).toArray] w (Ret fun v w' => v = .agg (RangeD.cells r0).toArray ∧ Own w D w' []) := by
 refine Calls.body (args := [.agg (OpD.cells p0).toArray]) Tryz.func138 rfl rfl rfl ?_
 show Wp _ _ _ [(0, .agg (OpD.cells p0).toArray)] _ _
 refine sr ?_
 refine npw (OpD.cells p0) 64 H ?_
 intro g21 w22 H23
 refine npw [.string ⟨List.toArray ([])⟩, .string ⟨List.toArray ([])⟩] 24 H23 ?_
 intro g24 w25 H26
 refine ns (Kz (.pointer (some ⟨g21, 3, none⟩)) (Lz (.string ⟨List.toArray p0.xLo⟩) H26 1 Tryz.isAgg9 (Kz (.pointer (some ⟨g21, 4, none⟩)) (Lz (.string ⟨List.toArray p0.xHi⟩) H26 1 Tryz.isAgg9 (Kz (.agg #[.string ⟨List.toArray p0.xLo⟩, .string ⟨List.toArray p0.xHi⟩]) ?_)))))
 refine sto [.string ⟨List.toArray p0.xLo⟩, .string ⟨List.toArray p0.xHi⟩] 0 H26 Tryz.sizeOf24 ?_
 intro w27 H28
 refine nt (rt (Fin.res (resC rfl rfl (Lds.agg (cs := [.string ⟨List.toArray p0.xLo⟩, .string ⟨List.toArray p0.xHi⟩]) Tryz.isAgg24 Tryz.sizeOf24 ((H28.cls (i := 0) rfl).lit (k := 0) (m := 2) rfl))) ?_))
 have H29 := H28.pk []
 obtain rfl : _ = RangeD.mk p0.xLo p0.xHi := hr.symm.trans rfl
 exact ⟨rfl, H29⟩
def span_Check (p0 : RangeD) : Int :=
 if p0.xLo ≠ ([]) then bnd (span_CheckKey p0.xLo) fun yr30 => if yr30 = 0 then if p0.xHi ≠ ([]) then bnd (span_CheckKey p0.xHi) fun yr43 => if yr43 = 0 then if p0.xHi ≤ p0.xLo then 21 else 0 else 21 else 0 else 21 else if p0.xHi ≠ ([]) then bnd (span_CheckKey p0.xHi) fun yr62 => if yr62 = 0 then if p0.xHi ≤ p0.xLo then 21 else 0 else 21 else 0
set_option maxRecDepth 100000 in
theorem span_Check_ok (w : World) (D : Nat → Prop) (p0 : RangeD) (r0 : Int) (H : Own w D w [])  (hr : span_Check p0 = r0) :
    Calls Tryz.prog 107 #[.agg (RangeD.cells p0).toArray] w (Ret fun v w' => v = .int .i64 r0 ∧ Own w D w' []) := by
 refine Calls.body (args := [.agg (RangeD.cells p0).toArray]) Tryz.func107 rfl rfl rfl ?_
 show Wp _ _ _ [(0, .agg (RangeD.cells p0).toArray)] _ _
 refine sr ?_
 refine npw (RangeD.cells p0) 24 H ?_
 intro g21 w22 H23
 refine An rfl (Wp.seq (sr (Kz (.pointer (some ⟨g21, 0, none⟩)) (Lz (.string ⟨List.toArray p0.xLo⟩) H23 0 Tryz.isAgg9 (fw (.bool (decide (p0.xLo ≠ ([])))) (Yl.strNe rfl rfl) (Mz rfl ?_))))))
 by_cases h24 : p0.xLo ≠ ([])
 refine Gz (.pointer (some ⟨g21, 0, none⟩)) (dT h24) (Gl (.string ⟨List.toArray p0.xLo⟩) (dT h24) H23 0 Tryz.isAgg9 ?_)
 obtain ⟨r30, hr31⟩ : ∃ q, span_CheckKey p0.xLo = q := ⟨_, rfl⟩
 obtain ⟨D25, HP26, ro27, bk28, rr29⟩ := Own.enter0 H23
 refine clG (dT h24) Tryz.call117 (span_CheckKey_ok _ _ p0.xLo r30 HP26 hr31) ?_
 rintro _ w32 ⟨rfl, HQ33, hk35⟩
 have H34 := bk28 _ _ HQ33
 replace hk35 : ¬ (r30 = 0) ∨ (1 ≤ p0.xLo.length ∧ p0.xLo.length ≤ 12) := hk35
 refine gw (.bool (decide (¬ (r30 = 0)))) (dT h24) (Yl.bool (e := !(decide (r30 = 0))) yk decide_not.symm) (fw (.bool (decide (¬ (r30 = 0)))) (Yl.pickT rfl (dT h24) rfl) (nt ?_))
 by_cases h36 : r30 = 0
 refine jF (dF (not_not_intro h36)) (sk (Wp.seq (sr (Kz (.pointer (some ⟨g21, 1, none⟩)) (Lz (.string ⟨List.toArray p0.xHi⟩) H34 0 Tryz.isAgg9 (fw (.bool (decide (p0.xHi ≠ ([])))) (Yl.strNe rfl rfl) (Mz rfl ?_)))))))
 by_cases h37 : p0.xHi ≠ ([])
 refine Gz (.pointer (some ⟨g21, 1, none⟩)) (dT h37) (Gl (.string ⟨List.toArray p0.xHi⟩) (dT h37) H34 0 Tryz.isAgg9 ?_)
 obtain ⟨r43, hr44⟩ : ∃ q, span_CheckKey p0.xHi = q := ⟨_, rfl⟩
 obtain ⟨D38, HP39, ro40, bk41, rr42⟩ := Own.enter0 H34
 refine clG (dT h37) Tryz.call117 (span_CheckKey_ok _ _ p0.xHi r43 HP39 hr44) ?_
 rintro _ w45 ⟨rfl, HQ46, hk48⟩
 have H47 := bk41 _ _ HQ46
 replace hk48 : ¬ (r43 = 0) ∨ (1 ≤ p0.xHi.length ∧ p0.xHi.length ≤ 12) := hk48
 refine gw (.bool (decide (¬ (r43 = 0)))) (dT h37) (Yl.bool (e := !(decide (r43 = 0))) yk decide_not.symm) (gw (.bool (decide (¬ (r43 = 0)))) (dT h37) (Yl.move rfl) ?_)
 by_cases h49 : r43 = 0
 refine gw (.pointer (some ⟨g21, 1, none⟩)) (dF (not_not_intro h49)) yk (gw (.string ⟨List.toArray p0.xHi⟩) (dF (not_not_intro h49)) (Yl.load rfl (Lds.one Tryz.isAgg9 (Cls.of (H47.cls (i := 0) rfl) rfl))) (gw (.pointer (some ⟨g21, 0, none⟩)) (dF (not_not_intro h49)) yk (gw (.string ⟨List.toArray p0.xLo⟩) (dF (not_not_intro h49)) (Yl.load rfl (Lds.one Tryz.isAgg9 (Cls.of (H47.cls (i := 0) rfl) rfl))) (gw (.bool (decide (p0.xHi ≤ p0.xLo))) (dF (not_not_intro h49)) (Yl.bool (e := Op.bytesLess p0.xHi p0.xLo || decide (p0.xHi = p0.xLo)) (Yl.strLe rfl rfl) (bl_le _ _)) (gw (.bool (decide (p0.xHi ≤ p0.xLo))) (dT h37) (Yl.pickF rfl (dF (not_not_intro h49)) rfl) (fw (.bool (decide (p0.xHi ≤ p0.xLo))) (Yl.pickT rfl (dT h37) rfl) (nt ?_)))))))
 by_cases h50 : p0.xHi ≤ p0.xLo
 refine jT (dT h50) (sr (An rfl (rt (tR (rs ?_)))))
 have H51 := H47.pk []
 obtain rfl : _ = 21 := hr.symm.trans (et (ip h24) (et (bnd_of hr31) (et (ip h36) (et (ip h37) (et (bnd_of hr44) (et (ip h49) (ip h50)))))))
 exact ⟨rfl, H51⟩
 refine jF (dF h50) (sk (sr (An rfl (rt (rs ?_)))))
 have H52 := H47.pk []
 obtain rfl : _ = 0 := hr.symm.trans (et (ip h24) (et (bnd_of hr31) (et (ip h36) (et (ip h37) (et (bnd_of hr44) (et (ip h49) (iN h50)))))))
 exact ⟨rfl, H52⟩
 refine Sz (dT h49) (Sz (dT h49) (Sz (dT h49) (Sz (dT h49) (Sz (dT h49) (gw (.bool true) (dT h37) (Yl.pickT rfl (dT h49) rfl) (fw (.bool true) (Yl.pickT rfl (dT h37) rfl) (nt (jt (sr (An rfl (rt (tR (rs ?_)))))))))))))
 have H53 := H47.pk []
 obtain rfl : _ = 21 := hr.symm.trans (et (ip h24) (et (bnd_of hr31) (et (ip h36) (et (ip h37) (et (bnd_of hr44) (iN h49))))))
 exact ⟨rfl, H53⟩
 refine Sz (dF h37) (Sz (dF h37) (Sz (dF h37) (Sz (dF h37) (Sz (dF h37) (WL.skipU rfl rfl rfl (WL.skipU rfl rfl rfl (WL.skipU rfl rfl rfl (WL.skipU rfl rfl rfl (WL.skipU rfl rfl rfl (Sz (dF h37) (fw (.bool false) (Yl.pickF rfl (dF h37) rfl) (nt (jf (sk (sr (An rfl (rt (rs ?_))))))))))))))))))
 have H54 := H34.pk []
 obtain rfl : _ = 0 := hr.symm.trans (et (ip h24) (et (bnd_of hr31) (et (ip h36) (iN h37))))
 exact ⟨rfl, H54⟩
 refine jT (dT h36) (sr (An rfl (rt (tR (rs ?_)))))
 have H55 := H34.pk []
 obtain rfl : _ = 21 := hr.symm.trans (et (ip h24) (et (bnd_of hr31) (iN h36)))
 exact ⟨rfl, H55⟩
 refine Sz (dF h24) (Sz (dF h24) (Sz (dF h24) (Sz (dF h24) (fw (.bool false) (Yl.pickF rfl (dF h24) rfl) (nt (jf (sk (Wp.seq (sr (Kz (.pointer (some ⟨g21, 1, none⟩)) (Lz (.string ⟨List.toArray p0.xHi⟩) H23 0 Tryz.isAgg9 (fw (.bool (decide (p0.xHi ≠ ([])))) (Yl.strNe rfl rfl) (Mz rfl ?_)))))))))))))
 by_cases h56 : p0.xHi ≠ ([])
 refine Gz (.pointer (some ⟨g21, 1, none⟩)) (dT h56) (Gl (.string ⟨List.toArray p0.xHi⟩) (dT h56) H23 0 Tryz.isAgg9 ?_)
 obtain ⟨r62, hr63⟩ : ∃ q, span_CheckKey p0.xHi = q := ⟨_, rfl⟩
 obtain ⟨D57, HP58, ro59, bk60, rr61⟩ := Own.enter0 H23
 refine clG (dT h56) Tryz.call117 (span_CheckKey_ok _ _ p0.xHi r62 HP58 hr63) ?_
 rintro _ w64 ⟨rfl, HQ65, hk67⟩
 have H66 := bk60 _ _ HQ65
 replace hk67 : ¬ (r62 = 0) ∨ (1 ≤ p0.xHi.length ∧ p0.xHi.length ≤ 12) := hk67
 refine gw (.bool (decide (¬ (r62 = 0)))) (dT h56) (Yl.bool (e := !(decide (r62 = 0))) yk decide_not.symm) (gw (.bool (decide (¬ (r62 = 0)))) (dT h56) (Yl.move rfl) ?_)
 by_cases h68 : r62 = 0
 refine gw (.pointer (some ⟨g21, 1, none⟩)) (dF (not_not_intro h68)) yk (gw (.string ⟨List.toArray p0.xHi⟩) (dF (not_not_intro h68)) (Yl.load rfl (Lds.one Tryz.isAgg9 (Cls.of (H66.cls (i := 0) rfl) rfl))) (gw (.pointer (some ⟨g21, 0, none⟩)) (dF (not_not_intro h68)) yk (gw (.string ⟨List.toArray p0.xLo⟩) (dF (not_not_intro h68)) (Yl.load rfl (Lds.one Tryz.isAgg9 (Cls.of (H66.cls (i := 0) rfl) rfl))) (gw (.bool (decide (p0.xHi ≤ p0.xLo))) (dF (not_not_intro h68)) (Yl.bool (e := Op.bytesLess p0.xHi p0.xLo || decide (p0.xHi = p0.xLo)) (Yl.strLe rfl rfl) (bl_le _ _)) (gw (.bool (decide (p0.xHi ≤ p0.xLo))) (dT h56) (Yl.pickF rfl (dF (not_not_intro h68)) rfl) (fw (.bool (decide (p0.xHi ≤ p0.xLo))) (Yl.pickT rfl (dT h56) rfl) (nt ?_)))))))
 by_cases h69 : p0.xHi ≤ p0.xLo
 refine jT (dT h69) (sr (An rfl (rt (tR (rs ?_)))))
 have H70 := H66.pk []
 obtain rfl : _ = 21 := hr.symm.trans (et (iN h24) (et (ip h56) (et (bnd_of hr63) (et (ip h68) (ip h69)))))
 exact ⟨rfl, H70⟩
 refine jF (dF h69) (sk (sr (An rfl (rt (rs ?_)))))
 have H71 := H66.pk []
 obtain rfl : _ = 0 := hr.symm.trans (et (iN h24) (et (ip h56) (et (bnd_of hr63) (et (ip h68) (iN h69)))))
 exact ⟨rfl, H71⟩
 refine Sz (dT h68) (Sz (dT h68) (Sz (dT h68) (Sz (dT h68) (Sz (dT h68) (gw (.bool true) (dT h56) (Yl.pickT rfl (dT h68) rfl) (fw (.bool true) (Yl.pickT rfl (dT h56) rfl) (nt (jt (sr (An rfl (rt (tR (rs ?_)))))))))))))
 have H72 := H66.pk []
 obtain rfl : _ = 21 := hr.symm.trans (et (iN h24) (et (ip h56) (et (bnd_of hr63) (iN h68))))
 exact ⟨rfl, H72⟩
 refine Sz (dF h56) (Sz (dF h56) (Sz (dF h56) (Sz (dF h56) (Sz (dF h56) (WL.skipU rfl rfl rfl (WL.skipU rfl rfl rfl (WL.skipU rfl rfl rfl (WL.skipU rfl rfl rfl (WL.skipU rfl rfl rfl (Sz (dF h56) (fw (.bool false) (Yl.pickF rfl (dF h56) rfl) (nt (jf (sk (sr (An rfl (rt (rs ?_))))))))))))))))))
 have H73 := H23.pk []
 obtain rfl : _ = 0 := hr.symm.trans (et (iN h24) (iN h56))
 exact ⟨rfl, H73⟩
def op_checkRange (p0 : OpD) : Int :=
 bnd (op_spanRange p0) fun yr29 => bnd (span_Check yr29) fun yr39 => yr39
set_option maxRecDepth 100000 in
theorem op_checkRange_ok (w : World) (D : Nat → Prop) (p0 : OpD) (r0 : Int) (H : Own w D w [])  (hr : op_checkRange p0 = r0) :
    Calls Tryz.prog 141 #[.agg (OpD.cells p0).toArray] w (Ret fun v w' => v = .int .i64 r0 ∧ Own w D w' []) := by
 refine Calls.body (args := [.agg (OpD.cells p0).toArray]) Tryz.func141 rfl rfl rfl ?_
 show Wp _ _ _ [(0, .agg (OpD.cells p0).toArray)] _ _
 refine sr ?_
 refine npw (OpD.cells p0) 64 H ?_
 intro g21 w22 H23
 refine Ar rfl (La (OpD.cells p0) H23 0 Tryz.isAgg64 Tryz.sizeOf64 ?_)
 obtain ⟨r29, hr30⟩ : ∃ q, op_spanRange p0 = q := ⟨_, rfl⟩
 obtain ⟨D24, HP25, ro26, bk27, rr28⟩ := Own.enter0 H23
 refine cl Tryz.call138 (op_spanRange_ok _ _ p0 r29 HP25 hr30) ?_
 rintro _ w31 ⟨rfl, HQ32⟩
 have H33 := bk27 _ _ HQ32
 obtain ⟨r39, hr40⟩ : ∃ q, span_Check r29 = q := ⟨_, rfl⟩
 obtain ⟨D34, HP35, ro36, bk37, rr38⟩ := Own.enter0 H33
 refine cl Tryz.call107 (span_Check_ok _ _ r29 r39 HP35 hr40) ?_
 rintro _ w41 ⟨rfl, HQ42⟩
 have H43 := bk37 _ _ HQ42
 refine An rfl (rt (rs ?_))
 have H44 := H43.pk []
 obtain rfl : _ = r39 := hr.symm.trans (et (bnd_of hr30) (bnd_of hr40))
 exact ⟨rfl, H44⟩
def op_checkScan (p0 : OpD) : Int :=
 bnd (op_checkRange p0) fun yr29 => if yr29 = 0 then if p0.xMost < 1 then 1 else if p0.xMost > 4 then 1 else 0 else yr29
set_option maxRecDepth 100000 in
theorem op_checkScan_ok (w : World) (D : Nat → Prop) (p0 : OpD) (r0 : Int) (H : Own w D w [])  (hr : op_checkScan p0 = r0) :
    Calls Tryz.prog 137 #[.agg (OpD.cells p0).toArray] w (Ret fun v w' => v = .int .i64 r0 ∧ Own w D w' []) := by
 refine Calls.body (args := [.agg (OpD.cells p0).toArray]) Tryz.func137 rfl rfl rfl ?_
 show Wp _ _ _ [(0, .agg (OpD.cells p0).toArray)] _ _
 refine sr ?_
 refine npw (OpD.cells p0) 64 H ?_
 intro g21 w22 H23
 refine An rfl (Wp.seq (sr (La (OpD.cells p0) H23 0 Tryz.isAgg64 Tryz.sizeOf64 ?_)))
 obtain ⟨r29, hr30⟩ : ∃ q, op_checkRange p0 = q := ⟨_, rfl⟩
 obtain ⟨D24, HP25, ro26, bk27, rr28⟩ := Own.enter0 H23
 refine cl Tryz.call141 (op_checkRange_ok _ _ p0 r29 HP25 hr30) ?_
 rintro _ w31 ⟨rfl, HQ32⟩
 have H33 := bk27 _ _ HQ32
 refine Ar rfl (Mz rfl (fw (.bool (decide (¬ (r29 = 0)))) (Yl.bool (e := !(decide (r29 = 0))) yk decide_not.symm) (nt ?_)))
 by_cases h34 : r29 = 0
 refine jF (dF (not_not_intro h34)) (sk (Wp.seq (sr (Kz (.pointer (some ⟨g21, 5, none⟩)) (Lz (.int .i64 p0.xMost) H33 0 Tryz.isAgg3 (Kz (.bool (decide (p0.xMost < 1))) (Mz rfl ?_)))))))
 by_cases h35 : p0.xMost < 1
 refine Sz (dT h35) (Sz (dT h35) (Sz (dT h35) (fw (.bool true) (Yl.pickT rfl (dT h35) rfl) (nt (jt (sr (An rfl (rt (tR (rs ?_))))))))))
 have H36 := H33.pk []
 obtain rfl : _ = 1 := hr.symm.trans (et (bnd_of hr30) (et (ip h34) (ip h35)))
 exact ⟨rfl, H36⟩
 refine Gz (.pointer (some ⟨g21, 5, none⟩)) (dF h35) (Gl (.int .i64 p0.xMost) (dF h35) H33 0 Tryz.isAgg3 (Gz (.bool (decide (p0.xMost > 4))) (dF h35) (fw (.bool (decide (p0.xMost > 4))) (Yl.pickF rfl (dF h35) rfl) (nt ?_))))
 by_cases h37 : p0.xMost > 4
 refine jT (dT h37) (sr (An rfl (rt (tR (rs ?_)))))
 have H38 := H33.pk []
 obtain rfl : _ = 1 := hr.symm.trans (et (bnd_of hr30) (et (ip h34) (et (iN h35) (ip h37))))
 exact ⟨rfl, H38⟩
 refine jF (dF h37) (sk (sr (An rfl (rt (rs ?_)))))
 have H39 := H33.pk []
 obtain rfl : _ = 0 := hr.symm.trans (et (bnd_of hr30) (et (ip h34) (et (iN h35) (iN h37))))
 exact ⟨rfl, H39⟩
 refine jT (dT h34) (sr (Mz rfl (An rfl (rt (tR (rs ?_))))))
 have H40 := H33.pk []
 obtain rfl : _ = r29 := hr.symm.trans (et (bnd_of hr30) (iN h34))
 exact ⟨rfl, H40⟩
set_option maxRecDepth 100000 in
theorem op_kindOf_5_ok (w : World) (D : Nat → Prop) (p0 : Int) (H : Own w D w []) (hp0 : p0 = 5) :
    Calls Tryz.prog 126 #[.int .i64 p0] w (Ret fun v w' => v = .tuple #[.agg #[.bool true, .func (.func 140) #[] #[], .func (.func 141) #[] #[], .func (.func 138) #[] #[], .func (.func 142) #[] #[]], .bool true] ∧ Own w D w' []) := by
 subst hp0
 refine Calls.body (args := [.int .i64 5]) Tryz.func126 rfl rfl rfl ?_
 show Wp _ _ _ [(0, .int .i64 5)] _ _
 refine sr ?_
 refine npw [.bool false, .nilFunc, .nilFunc, .nilFunc, .nilFunc] 162 H ?_
 intro g21 w22 H23
 refine Ar rfl (Kz (.agg #[.bool false, .func (.func 128) #[] #[], .func (.func 129) #[] #[], .func (.func 130) #[] #[], .func (.func 131) #[] #[]]) (Kz (.agg #[.bool true, .func (.func 132) #[] #[], .func (.func 133) #[] #[], .func (.func 130) #[] #[], .func (.func 134) #[] #[]]) (Kz (.agg #[.bool true, .func (.func 128) #[] #[], .func (.func 129) #[] #[], .func (.func 130) #[] #[], .func (.func 135) #[] #[]]) (Kz (.agg #[.bool false, .func (.func 136) #[] #[], .func (.func 137) #[] #[], .func (.func 138) #[] #[], .func (.func 139) #[] #[]]) (Kz (.agg #[.bool true, .func (.func 140) #[] #[], .func (.func 141) #[] #[], .func (.func 138) #[] #[], .func (.func 142) #[] #[]]) (Kz (.agg #[.bool false, .nilFunc, .nilFunc, .nilFunc, .nilFunc, .bool false, .func (.func 128) #[] #[], .func (.func 129) #[] #[], .func (.func 130) #[] #[], .func (.func 131) #[] #[], .bool true, .func (.func 132) #[] #[], .func (.func 133) #[] #[], .func (.func 130) #[] #[], .func (.func 134) #[] #[], .bool true, .func (.func 128) #[] #[], .func (.func 129) #[] #[], .func (.func 130) #[] #[], .func (.func 135) #[] #[], .bool false, .func (.func 136) #[] #[], .func (.func 137) #[] #[], .func (.func 138) #[] #[], .func (.func 139) #[] #[], .bool true, .func (.func 140) #[] #[], .func (.func 141) #[] #[], .func (.func 138) #[] #[], .func (.func 142) #[] #[]]) ?_))))))
 refine npw [.bool false, .nilFunc, .nilFunc, .nilFunc, .nilFunc, .bool false, .nilFunc, .nilFunc, .nilFunc, .nilFunc, .bool false, .nilFunc, .nilFunc, .nilFunc, .nilFunc, .bool false, .nilFunc, .nilFunc, .nilFunc, .nilFunc, .bool false, .nilFunc, .nilFunc, .nilFunc, .nilFunc, .bool false, .nilFunc, .nilFunc, .nilFunc, .nilFunc] 165 H23 ?_
 intro g24 w25 H26
 refine sto [.bool false, .nilFunc, .nilFunc, .nilFunc, .nilFunc, .bool false, .func (.func 128) #[] #[], .func (.func 129) #[] #[], .func (.func 130) #[] #[], .func (.func 131) #[] #[], .bool true, .func (.func 132) #[] #[], .func (.func 133) #[] #[], .func (.func 130) #[] #[], .func (.func 134) #[] #[], .bool true, .func (.func 128) #[] #[], .func (.func 129) #[] #[], .func (.func 130) #[] #[], .func (.func 135) #[] #[], .bool false, .func (.func 136) #[] #[], .func (.func 137) #[] #[], .func (.func 138) #[] #[], .func (.func 139) #[] #[], .bool true, .func (.func 140) #[] #[], .func (.func 141) #[] #[], .func (.func 138) #[] #[], .func (.func 142) #[] #[]] 0 H26 Tryz.sizeOf165 ?_
 intro w27 H28
 refine nt (Wp.seq (sr (Mz rfl (Kz (.bool false) (Mz rfl (gw (.int .i64 5) rfl (Yl.move rfl) (Gz (.bool false) rfl (fw (.bool false) (Yl.pickF rfl rfl rfl) (nt (jf (sk (sr (Mz rfl (Kz (.pointer (some ⟨g24, 25, none⟩)) (La ([.bool true, .func (.func 140) #[] #[], .func (.func 141) #[] #[], .func (.func 138) #[] #[], .func (.func 142) #[] #[]]) H28 0 Tryz.isAgg162 Tryz.sizeOf162 ?_)))))))))))))))
 have H29 := H28.pk [1, 0]
 refine sto [.bool true, .func (.func 140) #[] #[], .func (.func 141) #[] #[], .func (.func 138) #[] #[], .func (.func 142) #[] #[]] 0 H29 Tryz.sizeOf162 ?_
 intro w30 H31
 refine An rfl (rt (Fin.res (resN (vs := [.agg #[.bool true, .func (.func 140) #[] #[], .func (.func 141) #[] #[], .func (.func 138) #[] #[], .func (.func 142) #[] #[]], .bool true]) rfl (ResV.cell rfl (Lds.agg (cs := [.bool true, .func (.func 140) #[] #[], .func (.func 141) #[] #[], .func (.func 138) #[] #[], .func (.func 142) #[] #[]]) Tryz.isAgg162 Tryz.sizeOf162 ((H31.cls (i := 0) rfl).lit (k := 0) (m := 5) rfl)) (ResV.tmp rfl ResV.nil)) (Nat.le_of_ble_eq_true rfl)) ?_))
 have H32 := H31.pk []
 exact ⟨rfl, H32⟩
def op_ownRange (p0 : OpD) : OpD :=
 OpD.mk p0.xKind ([]) ([]) p0.xLo p0.xHi 0
set_option maxRecDepth 100000 in
theorem op_ownRange_ok (w : World) (D : Nat → Prop) (p0 : OpD) (r0 : OpD) (H : Own w D w [])  (hr : op_ownRange p0 = r0) :
    Calls Tryz.prog 140 #[.agg (OpD.cells p0).toArray] w (Ret fun v w' => v = .agg (OpD.cells r0).toArray ∧ Own w D w' []) := by
 refine Calls.body (args := [.agg (OpD.cells p0).toArray]) Tryz.func140 rfl rfl rfl ?_
 show Wp _ _ _ [(0, .agg (OpD.cells p0).toArray)] _ _
 refine sr ?_
 refine npw (OpD.cells p0) 64 H ?_
 intro g21 w22 H23
 refine npw [.int .i64 0, .string ⟨List.toArray ([])⟩, .string ⟨List.toArray ([])⟩, .string ⟨List.toArray ([])⟩, .string ⟨List.toArray ([])⟩, .int .i64 0] 64 H23 ?_
 intro g24 w25 H26
 refine ns (Kz (.pointer (some ⟨g21, 0, none⟩)) (Lz (.int .i64 p0.xKind) H26 1 Tryz.isAgg3 (Kz (.pointer (some ⟨g21, 3, none⟩)) (Lz (.string ⟨List.toArray p0.xLo⟩) H26 1 Tryz.isAgg9 (Kz (.pointer (some ⟨g21, 4, none⟩)) (Lz (.string ⟨List.toArray p0.xHi⟩) H26 1 Tryz.isAgg9 (Kz (.agg #[.int .i64 p0.xKind, .string ⟨List.toArray ([])⟩, .string ⟨List.toArray ([])⟩, .string ⟨List.toArray p0.xLo⟩, .string ⟨List.toArray p0.xHi⟩, .int .i64 0]) ?_)))))))
 refine sto [.int .i64 p0.xKind, .string ⟨List.toArray ([])⟩, .string ⟨List.toArray ([])⟩, .string ⟨List.toArray p0.xLo⟩, .string ⟨List.toArray p0.xHi⟩, .int .i64 0] 0 H26 Tryz.sizeOf64 ?_
 intro w27 H28
 refine nt (rt (Fin.res (resC rfl rfl (Lds.agg (cs := [.int .i64 p0.xKind, .string ⟨List.toArray ([])⟩, .string ⟨List.toArray ([])⟩, .string ⟨List.toArray p0.xLo⟩, .string ⟨List.toArray p0.xHi⟩, .int .i64 0]) Tryz.isAgg64 Tryz.sizeOf64 ((H28.cls (i := 0) rfl).lit (k := 0) (m := 6) rfl))) ?_))
 have H29 := H28.pk []
 obtain rfl : _ = OpD.mk p0.xKind ([]) ([]) p0.xLo p0.xHi 0 := hr.symm.trans rfl
 exact ⟨rfl, H29⟩
set_option maxRecDepth 100000 in
theorem op_kindOf_no_ok (w : World) (D : Nat → Prop) (p0 : Int) (H : Own w D w []) (hh0 : ¬ (p0 = 1)) (hh1 : ¬ (p0 = 2)) (hh2 : ¬ (p0 = 3)) (hh3 : ¬ (p0 = 4)) (hh4 : ¬ (p0 = 5)) :
    Calls Tryz.prog 126 #[.int .i64 p0] w (Ret fun v w' => v = .tuple #[.agg #[.bool false, .nilFunc, .nilFunc, .nilFunc, .nilFunc], .bool false] ∧ Own w D w' []) := by
 refine Calls.body (args := [.int .i64 p0]) Tryz.func126 rfl rfl rfl ?_
 show Wp _ _ _ [(0, .int .i64 p0)] _ _
 refine sr ?_
 refine npw [.bool false, .nilFunc, .nilFunc, .nilFunc, .nilFunc] 162 H ?_
 intro g21 w22 H23
 refine Ar rfl (Kz (.agg #[.bool false, .func (.func 128) #[] #[], .func (.func 129) #[] #[], .func (.func 130) #[] #[], .func (.func 131) #[] #[]]) (Kz (.agg #[.bool true, .func (.func 132) #[] #[], .func (.func 133) #[] #[], .func (.func 130) #[] #[], .func (.func 134) #[] #[]]) (Kz (.agg #[.bool true, .func (.func 128) #[] #[], .func (.func 129) #[] #[], .func (.func 130) #[] #[], .func (.func 135) #[] #[]]) (Kz (.agg #[.bool false, .func (.func 136) #[] #[], .func (.func 137) #[] #[], .func (.func 138) #[] #[], .func (.func 139) #[] #[]]) (Kz (.agg #[.bool true, .func (.func 140) #[] #[], .func (.func 141) #[] #[], .func (.func 138) #[] #[], .func (.func 142) #[] #[]]) (Kz (.agg #[.bool false, .nilFunc, .nilFunc, .nilFunc, .nilFunc, .bool false, .func (.func 128) #[] #[], .func (.func 129) #[] #[], .func (.func 130) #[] #[], .func (.func 131) #[] #[], .bool true, .func (.func 132) #[] #[], .func (.func 133) #[] #[], .func (.func 130) #[] #[], .func (.func 134) #[] #[], .bool true, .func (.func 128) #[] #[], .func (.func 129) #[] #[], .func (.func 130) #[] #[], .func (.func 135) #[] #[], .bool false, .func (.func 136) #[] #[], .func (.func 137) #[] #[], .func (.func 138) #[] #[], .func (.func 139) #[] #[], .bool true, .func (.func 140) #[] #[], .func (.func 141) #[] #[], .func (.func 138) #[] #[], .func (.func 142) #[] #[]]) ?_))))))
 refine npw [.bool false, .nilFunc, .nilFunc, .nilFunc, .nilFunc, .bool false, .nilFunc, .nilFunc, .nilFunc, .nilFunc, .bool false, .nilFunc, .nilFunc, .nilFunc, .nilFunc, .bool false, .nilFunc, .nilFunc, .nilFunc, .nilFunc, .bool false, .nilFunc, .nilFunc, .nilFunc, .nilFunc, .bool false, .nilFunc, .nilFunc, .nilFunc, .nilFunc] 165 H23 ?_
 intro g24 w25 H26
 refine sto [.bool false, .nilFunc, .nilFunc, .nilFunc, .nilFunc, .bool false, .func (.func 128) #[] #[], .func (.func 129) #[] #[], .func (.func 130) #[] #[], .func (.func 131) #[] #[], .bool true, .func (.func 132) #[] #[], .func (.func 133) #[] #[], .func (.func 130) #[] #[], .func (.func 134) #[] #[], .bool true, .func (.func 128) #[] #[], .func (.func 129) #[] #[], .func (.func 130) #[] #[], .func (.func 135) #[] #[], .bool false, .func (.func 136) #[] #[], .func (.func 137) #[] #[], .func (.func 138) #[] #[], .func (.func 139) #[] #[], .bool true, .func (.func 140) #[] #[], .func (.func 141) #[] #[], .func (.func 138) #[] #[], .func (.func 142) #[] #[]] 0 H26 Tryz.sizeOf165 ?_
 intro w27 H28
 refine nt (Wp.seq (sr (Mz rfl (Kz (.bool (decide (p0 ≤ 0))) (Mz rfl ?_)))))
 by_cases h29 : p0 ≤ 0
 refine Sz (dT h29) (Sz (dT h29) (fw (.bool true) (Yl.pickT rfl (dT h29) rfl) (nt (jt (sr (Kz (.agg #[.bool false, .nilFunc, .nilFunc, .nilFunc, .nilFunc]) ?_))))))
 have H30 := H28.pk [1, 0]
 refine sto [.bool false, .nilFunc, .nilFunc, .nilFunc, .nilFunc] 0 H30 Tryz.sizeOf162 ?_
 intro w31 H32
 refine An rfl (rt (tR (Fin.res (resN (vs := [.agg #[.bool false, .nilFunc, .nilFunc, .nilFunc, .nilFunc], .bool false]) rfl (ResV.cell rfl (Lds.agg (cs := [.bool false, .nilFunc, .nilFunc, .nilFunc, .nilFunc]) Tryz.isAgg162 Tryz.sizeOf162 ((H32.cls (i := 0) rfl).lit (k := 0) (m := 5) rfl)) (ResV.tmp rfl ResV.nil)) (Nat.le_of_ble_eq_true rfl)) ?_)))
 have H33 := H32.pk []
 exact ⟨rfl, H33⟩
 refine gw (.int .i64 p0) (dF h29) (Yl.move rfl) (Gz (.bool (decide (p0 ≥ 6))) (dF h29) (fw (.bool (decide (p0 ≥ 6))) (Yl.pickF rfl (dF h29) rfl) (nt ?_)))
 have hb34 : (decide (p0 ≥ 6)) = true := (dT (by omega))
 refine jT hb34 (sr (Kz (.agg #[.bool false, .nilFunc, .nilFunc, .nilFunc, .nilFunc]) ?_))
 have H35 := H28.pk [1, 0]
 refine sto [.bool false, .nilFunc, .nilFunc, .nilFunc, .nilFunc] 0 H35 Tryz.sizeOf162 ?_
 intro w36 H37
 refine An rfl (rt (tR (Fin.res (resN (vs := [.agg #[.bool false, .nilFunc, .nilFunc, .nilFunc, .nilFunc], .bool false]) rfl (ResV.cell rfl (Lds.agg (cs := [.bool false, .nilFunc, .nilFunc, .nilFunc, .nilFunc]) Tryz.isAgg162 Tryz.sizeOf162 ((H37.cls (i := 0) rfl).lit (k := 0) (m := 5) rfl)) (ResV.tmp rfl ResV.nil)) (Nat.le_of_ble_eq_true rfl)) ?_)))
 have H38 := H37.pk []
 exact ⟨rfl, H38⟩
def op_CheckOp (p0 : OpD) : Int :=
 if p0.xKind = 1 then bnd (op_ownKey p0) fun yr46 => if (yr46.xKind = p0.xKind) ∧ (yr46.xKey = p0.xKey) ∧ (yr46.xValue = p0.xValue) ∧ (yr46.xLo = p0.xLo) ∧ (yr46.xHi = p0.xHi) ∧ (yr46.xMost = p0.xMost) then bnd (op_checkKey p0) fun yr57 => yr57 else 40 else if p0.xKind = 2 then bnd (op_ownPair p0) fun yr86 => if (yr86.xKind = p0.xKind) ∧ (yr86.xKey = p0.xKey) ∧ (yr86.xValue = p0.xValue) ∧ (yr86.xLo = p0.xLo) ∧ (yr86.xHi = p0.xHi) ∧ (yr86.xMost = p0.xMost) then bnd (op_checkPair p0) fun yr97 => yr97 else 40 else if p0.xKind = 3 then bnd (op_ownKey p0) fun yr126 => if (yr126.xKind = p0.xKind) ∧ (yr126.xKey = p0.xKey) ∧ (yr126.xValue = p0.xValue) ∧ (yr126.xLo = p0.xLo) ∧ (yr126.xHi = p0.xHi) ∧ (yr126.xMost = p0.xMost) then bnd (op_checkKey p0) fun yr137 => yr137 else 40 else if p0.xKind = 4 then bnd (op_ownScan p0) fun yr166 => if (yr166.xKind = p0.xKind) ∧ (yr166.xKey = p0.xKey) ∧ (yr166.xValue = p0.xValue) ∧ (yr166.xLo = p0.xLo) ∧ (yr166.xHi = p0.xHi) ∧ (yr166.xMost = p0.xMost) then bnd (op_checkScan p0) fun yr177 => yr177 else 40 else if p0.xKind = 5 then bnd (op_ownRange p0) fun yr206 => if (yr206.xKind = p0.xKind) ∧ (yr206.xKey = p0.xKey) ∧ (yr206.xValue = p0.xValue) ∧ (yr206.xLo = p0.xLo) ∧ (yr206.xHi = p0.xHi) ∧ (yr206.xMost = p0.xMost) then bnd (op_checkRange p0) fun yr217 => yr217 else 40 else 40
set_option maxRecDepth 100000 in
theorem op_CheckOp_ok (w : World) (D : Nat → Prop) (p0 : OpD) (r0 : Int) (H : Own w D w [])  (hr : op_CheckOp p0 = r0) :
    Calls Tryz.prog 120 #[.agg (OpD.cells p0).toArray] w (Ret fun v w' => v = .int .i64 r0 ∧ Own w D w' [] ∧ (¬ (r0 = 0) ∨ (1 ≤ p0.xKind ∧ p0.xKind ≤ 5))) := by
 refine Calls.body (args := [.agg (OpD.cells p0).toArray]) Tryz.func120 rfl rfl rfl ?_
 show Wp _ _ _ [(0, .agg (OpD.cells p0).toArray)] _ _
 refine sr ?_
 refine npw (OpD.cells p0) 64 H ?_
 intro g21 w22 H23
 refine Ar rfl (Kz (.pointer (some ⟨g21, 0, none⟩)) (Lz (.int .i64 p0.xKind) H23 0 Tryz.isAgg3 ?_))
 by_cases h24 : p0.xKind = 1
 obtain ⟨D25, HP26, ro27, bk28, rr29⟩ := Own.enter0 H23
 refine cl Tryz.call126 (op_kindOf_1_ok _ _ p0.xKind HP26 (of_decide_eq_true (dT h24))) ?_
 rintro _ w31 ⟨rfl, HQ32⟩
 have H33 := bk28 _ _ HQ32
 refine Mz rfl (Kz (.agg #[.bool false, .func (.func 128) #[] #[], .func (.func 129) #[] #[], .func (.func 130) #[] #[], .func (.func 131) #[] #[]]) (Kz (.bool true) ?_))
 refine npw [.bool false, .nilFunc, .nilFunc, .nilFunc, .nilFunc] 162 H33 ?_
 intro g34 w35 H36
 refine sto [.bool false, .func (.func 128) #[] #[], .func (.func 129) #[] #[], .func (.func 130) #[] #[], .func (.func 131) #[] #[]] 0 H36 Tryz.sizeOf162 ?_
 intro w37 H38
 refine An rfl (Wp.seq (Wp.seq ?_))
 have H40 := H38.drew
 refine Wp.drawnX [] (fun W => ∃ L', Own w D W ([blk g34 [.bool false, .func (.func 128) #[] #[], .func (.func 129) #[] #[], .func (.func 130) #[] #[], .func (.func 131) #[] #[]] 162, blk g21 (OpD.cells p0) 64] ++ L')) (by kernel_rfl) (by kernel_rfl) (NoP.then (NoP.then NoP.base)) ⟨_, H40⟩ ?_
 revert H40
 generalize World.drew w37 = w39
 intro H40
 refine GX.take (v := .bool true) (rs := []) 0 rfl (by kernel_rfl) (fun _ _ => Yl.move rfl) (GX.take (v := .bool false) (rs := []) 1 rfl (by kernel_rfl) (fun _ _ => yk) (GX.take (v := .bool false) (rs := []) 2 rfl (by kernel_rfl) (fun _ _ => Yl.move rfl) (GX.takeG (v := .pointer (some ⟨g34, 1, none⟩)) (rs := []) 3 rfl rfl rfl rfl (by kernel_rfl) (fun _ _ => yk) (GX.takeG (v := .func (.func 128) #[] #[]) (rs := []) 4 rfl rfl rfl rfl (by kernel_rfl) (fun _ ⟨_, H9⟩ => Yl.load rfl (Lds.one Tryz.isAgg158 (Cls.of (H9.cls (i := 0) rfl) rfl))) (GX.takeG (v := .agg (OpD.cells p0).toArray) (rs := []) 5 rfl rfl rfl rfl (by kernel_rfl) (fun _ ⟨_, H9⟩ => Yl.load rfl (Lds.agg (cs := (OpD.cells p0)) Tryz.isAgg64 Tryz.sizeOf64 ((H9.cls (i := 1) rfl).lit (k := 0) (m := 6) rfl))) (GX.takeG (v := .agg (OpD.cells p0).toArray) (rs := []) 7 rfl rfl rfl rfl (by kernel_rfl) (fun _ ⟨_, H9⟩ => Yl.load rfl (Lds.agg (cs := (OpD.cells p0)) Tryz.isAgg64 Tryz.sizeOf64 ((H9.cls (i := 1) rfl).lit (k := 0) (m := 6) rfl))) ?_))))))
 obtain ⟨r46, hr47⟩ : ∃ q, op_ownKey p0 = q := ⟨_, rfl⟩
 obtain ⟨D41, HP42, ro43, bk44, rr45⟩ := Own.enter0 H40
 refine GX.doG 6 rfl rfl rfl rfl (by kernel_rfl) (Do.callV Tryz.call128 rfl rfl (op_ownKey_ok _ _ p0 r46 HP42 hr47) ?_)
 rintro _ w48 ⟨rfl, HQ49⟩
 have H50 := bk44 _ _ HQ49
 refine ⟨.inr ⟨_, H50⟩, ?_⟩
 refine GX.takeG (v := .bool (decide (¬ ((r46.xKind = p0.xKind) ∧ (r46.xKey = p0.xKey) ∧ (r46.xValue = p0.xValue) ∧ (r46.xLo = p0.xLo) ∧ (r46.xHi = p0.xHi) ∧ (r46.xMost = p0.xMost))))) (rs := []) 8 rfl rfl rfl rfl (by kernel_rfl) (fun _ _ => Yl.bool (e := !(decide ((r46.xKind = p0.xKind) ∧ (r46.xKey = p0.xKey) ∧ (r46.xValue = p0.xValue) ∧ (r46.xLo = p0.xLo) ∧ (r46.xHi = p0.xHi) ∧ (r46.xMost = p0.xMost)))) (Yl.neAgg rfl rfl (by kernel_rfl) rfl (Eqv.struct Tryz.underlying64 (by kernel_rfl) (EqF.dec (EqF.cons (u := .int .i64 r46.xKind) (v := .int .i64 p0.xKind) (by decide) (fun _ => by kernel_rfl) (fun _ => by kernel_rfl) (Eqv.int Tryz.underlying3) (EqF.cons (u := .string ⟨List.toArray r46.xKey⟩) (v := .string ⟨List.toArray p0.xKey⟩) (by decide) (fun _ => by kernel_rfl) (fun _ => by kernel_rfl) (Eqv.string Tryz.underlying9) (EqF.cons (u := .string ⟨List.toArray r46.xValue⟩) (v := .string ⟨List.toArray p0.xValue⟩) (by decide) (fun _ => by kernel_rfl) (fun _ => by kernel_rfl) (Eqv.string Tryz.underlying9) (EqF.cons (u := .string ⟨List.toArray r46.xLo⟩) (v := .string ⟨List.toArray p0.xLo⟩) (by decide) (fun _ => by kernel_rfl) (fun _ => by kernel_rfl) (Eqv.string Tryz.underlying9) (EqF.cons (u := .string ⟨List.toArray r46.xHi⟩) (v := .string ⟨List.toArray p0.xHi⟩) (by decide) (fun _ => by kernel_rfl) (fun _ => by kernel_rfl) (Eqv.string Tryz.underlying9) (EqF.cons (u := .int .i64 r46.xMost) (v := .int .i64 p0.xMost) (by decide) (fun _ => by kernel_rfl) (fun _ => by kernel_rfl) (Eqv.int Tryz.underlying3) (EqF.nil.up (Nat.zero_le _)))))))) ((congrArg (decide (r46.xKind = p0.xKind) && ·) ((congrArg (decide (r46.xKey = p0.xKey) && ·) ((congrArg (decide (r46.xValue = p0.xValue) && ·) ((congrArg (decide (r46.xLo = p0.xLo) && ·) ((congrArg (decide (r46.xHi = p0.xHi) && ·) and_dec1).trans and_dec)).trans and_dec)).trans and_dec)).trans and_dec)).trans and_dec)))) decide_not.symm) (GX.take (v := .bool (decide (¬ ((r46.xKind = p0.xKind) ∧ (r46.xKey = p0.xKey) ∧ (r46.xValue = p0.xValue) ∧ (r46.xLo = p0.xLo) ∧ (r46.xHi = p0.xHi) ∧ (r46.xMost = p0.xMost))))) (rs := []) 9 rfl (by kernel_rfl) (fun _ _ => Yl.pickF rfl rfl rfl) (GX.done (by kernel_rfl) (Fin.then ?_)))
 by_cases h51 : (r46.xKind = p0.xKind) ∧ (r46.xKey = p0.xKey) ∧ (r46.xValue = p0.xValue) ∧ (r46.xLo = p0.xLo) ∧ (r46.xHi = p0.xHi) ∧ (r46.xMost = p0.xMost)
 refine jF (dF (not_not_intro h51)) (sk (sr (Kz (.pointer (some ⟨g34, 2, none⟩)) (Lz (.func (.func 129) #[] #[]) H50 0 Tryz.isAgg113 (La (OpD.cells p0) H50 1 Tryz.isAgg64 Tryz.sizeOf64 ?_)))))
 obtain ⟨r57, hr58⟩ : ∃ q, op_checkKey p0 = q := ⟨_, rfl⟩
 obtain ⟨D52, HP53, ro54, bk55, rr56⟩ := Own.enter0 H50
 refine WL.do rfl (Do.callV Tryz.call129 rfl rfl (op_checkKey_ok _ _ p0 r57 HP53 hr58) ?_)
 rintro _ w59 ⟨rfl, HQ60⟩
 have H61 := bk55 _ _ HQ60
 refine An rfl (rt (rs ?_))
 have H62 := H61.pk []
 obtain rfl : _ = r57 := hr.symm.trans (et (ip h24) (et (bnd_of hr47) (et (ip h51) (bnd_of hr58))))
 exact ⟨rfl, H62, (by omega)⟩
 refine jT (dT h51) (sr (An rfl (rt (tR (rs ?_)))))
 have H63 := H50.pk []
 obtain rfl : _ = 40 := hr.symm.trans (et (ip h24) (et (bnd_of hr47) (iN h51)))
 exact ⟨rfl, H63, (by omega)⟩
 by_cases h64 : p0.xKind = 2
 obtain ⟨D65, HP66, ro67, bk68, rr69⟩ := Own.enter0 H23
 refine cl Tryz.call126 (op_kindOf_2_ok _ _ p0.xKind HP66 (of_decide_eq_true (dT h64))) ?_
 rintro _ w71 ⟨rfl, HQ72⟩
 have H73 := bk68 _ _ HQ72
 refine Mz rfl (Kz (.agg #[.bool true, .func (.func 132) #[] #[], .func (.func 133) #[] #[], .func (.func 130) #[] #[], .func (.func 134) #[] #[]]) (Kz (.bool true) ?_))
 refine npw [.bool false, .nilFunc, .nilFunc, .nilFunc, .nilFunc] 162 H73 ?_
 intro g74 w75 H76
 refine sto [.bool true, .func (.func 132) #[] #[], .func (.func 133) #[] #[], .func (.func 130) #[] #[], .func (.func 134) #[] #[]] 0 H76 Tryz.sizeOf162 ?_
 intro w77 H78
 refine An rfl (Wp.seq (Wp.seq ?_))
 have H80 := H78.drew
 refine Wp.drawnX [] (fun W => ∃ L', Own w D W ([blk g74 [.bool true, .func (.func 132) #[] #[], .func (.func 133) #[] #[], .func (.func 130) #[] #[], .func (.func 134) #[] #[]] 162, blk g21 (OpD.cells p0) 64] ++ L')) (by kernel_rfl) (by kernel_rfl) (NoP.then (NoP.then NoP.base)) ⟨_, H80⟩ ?_
 revert H80
 generalize World.drew w77 = w79
 intro H80
 refine GX.take (v := .bool true) (rs := []) 0 rfl (by kernel_rfl) (fun _ _ => Yl.move rfl) (GX.take (v := .bool false) (rs := []) 1 rfl (by kernel_rfl) (fun _ _ => yk) (GX.take (v := .bool false) (rs := []) 2 rfl (by kernel_rfl) (fun _ _ => Yl.move rfl) (GX.takeG (v := .pointer (some ⟨g74, 1, none⟩)) (rs := []) 3 rfl rfl rfl rfl (by kernel_rfl) (fun _ _ => yk) (GX.takeG (v := .func (.func 132) #[] #[]) (rs := []) 4 rfl rfl rfl rfl (by kernel_rfl) (fun _ ⟨_, H9⟩ => Yl.load rfl (Lds.one Tryz.isAgg158 (Cls.of (H9.cls (i := 0) rfl) rfl))) (GX.takeG (v := .agg (OpD.cells p0).toArray) (rs := []) 5 rfl rfl rfl rfl (by kernel_rfl) (fun _ ⟨_, H9⟩ => Yl.load rfl (Lds.agg (cs := (OpD.cells p0)) Tryz.isAgg64 Tryz.sizeOf64 ((H9.cls (i := 1) rfl).lit (k := 0) (m := 6) rfl))) (GX.takeG (v := .agg (OpD.cells p0).toArray) (rs := []) 7 rfl rfl rfl rfl (by kernel_rfl) (fun _ ⟨_, H9⟩ => Yl.load rfl (Lds.agg (cs := (OpD.cells p0)) Tryz.isAgg64 Tryz.sizeOf64 ((H9.cls (i := 1) rfl).lit (k := 0) (m := 6) rfl))) ?_))))))
 obtain ⟨r86, hr87⟩ : ∃ q, op_ownPair p0 = q := ⟨_, rfl⟩
 obtain ⟨D81, HP82, ro83, bk84, rr85⟩ := Own.enter0 H80
 refine GX.doG 6 rfl rfl rfl rfl (by kernel_rfl) (Do.callV Tryz.call132 rfl rfl (op_ownPair_ok _ _ p0 r86 HP82 hr87) ?_)
 rintro _ w88 ⟨rfl, HQ89⟩
 have H90 := bk84 _ _ HQ89
 refine ⟨.inr ⟨_, H90⟩, ?_⟩
 refine GX.takeG (v := .bool (decide (¬ ((r86.xKind = p0.xKind) ∧ (r86.xKey = p0.xKey) ∧ (r86.xValue = p0.xValue) ∧ (r86.xLo = p0.xLo) ∧ (r86.xHi = p0.xHi) ∧ (r86.xMost = p0.xMost))))) (rs := []) 8 rfl rfl rfl rfl (by kernel_rfl) (fun _ _ => Yl.bool (e := !(decide ((r86.xKind = p0.xKind) ∧ (r86.xKey = p0.xKey) ∧ (r86.xValue = p0.xValue) ∧ (r86.xLo = p0.xLo) ∧ (r86.xHi = p0.xHi) ∧ (r86.xMost = p0.xMost)))) (Yl.neAgg rfl rfl (by kernel_rfl) rfl (Eqv.struct Tryz.underlying64 (by kernel_rfl) (EqF.dec (EqF.cons (u := .int .i64 r86.xKind) (v := .int .i64 p0.xKind) (by decide) (fun _ => by kernel_rfl) (fun _ => by kernel_rfl) (Eqv.int Tryz.underlying3) (EqF.cons (u := .string ⟨List.toArray r86.xKey⟩) (v := .string ⟨List.toArray p0.xKey⟩) (by decide) (fun _ => by kernel_rfl) (fun _ => by kernel_rfl) (Eqv.string Tryz.underlying9) (EqF.cons (u := .string ⟨List.toArray r86.xValue⟩) (v := .string ⟨List.toArray p0.xValue⟩) (by decide) (fun _ => by kernel_rfl) (fun _ => by kernel_rfl) (Eqv.string Tryz.underlying9) (EqF.cons (u := .string ⟨List.toArray r86.xLo⟩) (v := .string ⟨List.toArray p0.xLo⟩) (by decide) (fun _ => by kernel_rfl) (fun _ => by kernel_rfl) (Eqv.string Tryz.underlying9) (EqF.cons (u := .string ⟨List.toArray r86.xHi⟩) (v := .string ⟨List.toArray p0.xHi⟩) (by decide) (fun _ => by kernel_rfl) (fun _ => by kernel_rfl) (Eqv.string Tryz.underlying9) (EqF.cons (u := .int .i64 r86.xMost) (v := .int .i64 p0.xMost) (by decide) (fun _ => by kernel_rfl) (fun _ => by kernel_rfl) (Eqv.int Tryz.underlying3) (EqF.nil.up (Nat.zero_le _)))))))) ((congrArg (decide (r86.xKind = p0.xKind) && ·) ((congrArg (decide (r86.xKey = p0.xKey) && ·) ((congrArg (decide (r86.xValue = p0.xValue) && ·) ((congrArg (decide (r86.xLo = p0.xLo) && ·) ((congrArg (decide (r86.xHi = p0.xHi) && ·) and_dec1).trans and_dec)).trans and_dec)).trans and_dec)).trans and_dec)).trans and_dec)))) decide_not.symm) (GX.take (v := .bool (decide (¬ ((r86.xKind = p0.xKind) ∧ (r86.xKey = p0.xKey) ∧ (r86.xValue = p0.xValue) ∧ (r86.xLo = p0.xLo) ∧ (r86.xHi = p0.xHi) ∧ (r86.xMost = p0.xMost))))) (rs := []) 9 rfl (by kernel_rfl) (fun _ _ => Yl.pickF rfl rfl rfl) (GX.done (by kernel_rfl) (Fin.then ?_)))
 by_cases h91 : (r86.xKind = p0.xKind) ∧ (r86.xKey = p0.xKey) ∧ (r86.xValue = p0.xValue) ∧ (r86.xLo = p0.xLo) ∧ (r86.xHi = p0.xHi) ∧ (r86.xMost = p0.xMost)
 refine jF (dF (not_not_intro h91)) (sk (sr (Kz (.pointer (some ⟨g74, 2, none⟩)) (Lz (.func (.func 133) #[] #[]) H90 0 Tryz.isAgg113 (La (OpD.cells p0) H90 1 Tryz.isAgg64 Tryz.sizeOf64 ?_)))))
 obtain ⟨r97, hr98⟩ : ∃ q, op_checkPair p0 = q := ⟨_, rfl⟩
 obtain ⟨D92, HP93, ro94, bk95, rr96⟩ := Own.enter0 H90
 refine WL.do rfl (Do.callV Tryz.call133 rfl rfl (op_checkPair_ok _ _ p0 r97 HP93 hr98) ?_)
 rintro _ w99 ⟨rfl, HQ100⟩
 have H101 := bk95 _ _ HQ100
 refine An rfl (rt (rs ?_))
 have H102 := H101.pk []
 obtain rfl : _ = r97 := hr.symm.trans (et (iN h24) (et (ip h64) (et (bnd_of hr87) (et (ip h91) (bnd_of hr98)))))
 exact ⟨rfl, H102, (by omega)⟩
 refine jT (dT h91) (sr (An rfl (rt (tR (rs ?_)))))
 have H103 := H90.pk []
 obtain rfl : _ = 40 := hr.symm.trans (et (iN h24) (et (ip h64) (et (bnd_of hr87) (iN h91))))
 exact ⟨rfl, H103, (by omega)⟩
 by_cases h104 : p0.xKind = 3
 obtain ⟨D105, HP106, ro107, bk108, rr109⟩ := Own.enter0 H23
 refine cl Tryz.call126 (op_kindOf_3_ok _ _ p0.xKind HP106 (of_decide_eq_true (dT h104))) ?_
 rintro _ w111 ⟨rfl, HQ112⟩
 have H113 := bk108 _ _ HQ112
 refine Mz rfl (Kz (.agg #[.bool true, .func (.func 128) #[] #[], .func (.func 129) #[] #[], .func (.func 130) #[] #[], .func (.func 135) #[] #[]]) (Kz (.bool true) ?_))
 refine npw [.bool false, .nilFunc, .nilFunc, .nilFunc, .nilFunc] 162 H113 ?_
 intro g114 w115 H116
 refine sto [.bool true, .func (.func 128) #[] #[], .func (.func 129) #[] #[], .func (.func 130) #[] #[], .func (.func 135) #[] #[]] 0 H116 Tryz.sizeOf162 ?_
 intro w117 H118
 refine An rfl (Wp.seq (Wp.seq ?_))
 have H120 := H118.drew
 refine Wp.drawnX [] (fun W => ∃ L', Own w D W ([blk g114 [.bool true, .func (.func 128) #[] #[], .func (.func 129) #[] #[], .func (.func 130) #[] #[], .func (.func 135) #[] #[]] 162, blk g21 (OpD.cells p0) 64] ++ L')) (by kernel_rfl) (by kernel_rfl) (NoP.then (NoP.then NoP.base)) ⟨_, H120⟩ ?_
 revert H120
 generalize World.drew w117 = w119
 intro H120
 refine GX.take (v := .bool true) (rs := []) 0 rfl (by kernel_rfl) (fun _ _ => Yl.move rfl) (GX.take (v := .bool false) (rs := []) 1 rfl (by kernel_rfl) (fun _ _ => yk) (GX.take (v := .bool false) (rs := []) 2 rfl (by kernel_rfl) (fun _ _ => Yl.move rfl) (GX.takeG (v := .pointer (some ⟨g114, 1, none⟩)) (rs := []) 3 rfl rfl rfl rfl (by kernel_rfl) (fun _ _ => yk) (GX.takeG (v := .func (.func 128) #[] #[]) (rs := []) 4 rfl rfl rfl rfl (by kernel_rfl) (fun _ ⟨_, H9⟩ => Yl.load rfl (Lds.one Tryz.isAgg158 (Cls.of (H9.cls (i := 0) rfl) rfl))) (GX.takeG (v := .agg (OpD.cells p0).toArray) (rs := []) 5 rfl rfl rfl rfl (by kernel_rfl) (fun _ ⟨_, H9⟩ => Yl.load rfl (Lds.agg (cs := (OpD.cells p0)) Tryz.isAgg64 Tryz.sizeOf64 ((H9.cls (i := 1) rfl).lit (k := 0) (m := 6) rfl))) (GX.takeG (v := .agg (OpD.cells p0).toArray) (rs := []) 7 rfl rfl rfl rfl (by kernel_rfl) (fun _ ⟨_, H9⟩ => Yl.load rfl (Lds.agg (cs := (OpD.cells p0)) Tryz.isAgg64 Tryz.sizeOf64 ((H9.cls (i := 1) rfl).lit (k := 0) (m := 6) rfl))) ?_))))))
 obtain ⟨r126, hr127⟩ : ∃ q, op_ownKey p0 = q := ⟨_, rfl⟩
 obtain ⟨D121, HP122, ro123, bk124, rr125⟩ := Own.enter0 H120
 refine GX.doG 6 rfl rfl rfl rfl (by kernel_rfl) (Do.callV Tryz.call128 rfl rfl (op_ownKey_ok _ _ p0 r126 HP122 hr127) ?_)
 rintro _ w128 ⟨rfl, HQ129⟩
 have H130 := bk124 _ _ HQ129
 refine ⟨.inr ⟨_, H130⟩, ?_⟩
 refine GX.takeG (v := .bool (decide (¬ ((r126.xKind = p0.xKind) ∧ (r126.xKey = p0.xKey) ∧ (r126.xValue = p0.xValue) ∧ (r126.xLo = p0.xLo) ∧ (r126.xHi = p0.xHi) ∧ (r126.xMost = p0.xMost))))) (rs := []) 8 rfl rfl rfl rfl (by kernel_rfl) (fun _ _ => Yl.bool (e := !(decide ((r126.xKind = p0.xKind) ∧ (r126.xKey = p0.xKey) ∧ (r126.xValue = p0.xValue) ∧ (r126.xLo = p0.xLo) ∧ (r126.xHi = p0.xHi) ∧ (r126.xMost = p0.xMost)))) (Yl.neAgg rfl rfl (by kernel_rfl) rfl (Eqv.struct Tryz.underlying64 (by kernel_rfl) (EqF.dec (EqF.cons (u := .int .i64 r126.xKind) (v := .int .i64 p0.xKind) (by decide) (fun _ => by kernel_rfl) (fun _ => by kernel_rfl) (Eqv.int Tryz.underlying3) (EqF.cons (u := .string ⟨List.toArray r126.xKey⟩) (v := .string ⟨List.toArray p0.xKey⟩) (by decide) (fun _ => by kernel_rfl) (fun _ => by kernel_rfl) (Eqv.string Tryz.underlying9) (EqF.cons (u := .string ⟨List.toArray r126.xValue⟩) (v := .string ⟨List.toArray p0.xValue⟩) (by decide) (fun _ => by kernel_rfl) (fun _ => by kernel_rfl) (Eqv.string Tryz.underlying9) (EqF.cons (u := .string ⟨List.toArray r126.xLo⟩) (v := .string ⟨List.toArray p0.xLo⟩) (by decide) (fun _ => by kernel_rfl) (fun _ => by kernel_rfl) (Eqv.string Tryz.underlying9) (EqF.cons (u := .string ⟨List.toArray r126.xHi⟩) (v := .string ⟨List.toArray p0.xHi⟩) (by decide) (fun _ => by kernel_rfl) (fun _ => by kernel_rfl) (Eqv.string Tryz.underlying9) (EqF.cons (u := .int .i64 r126.xMost) (v := .int .i64 p0.xMost) (by decide) (fun _ => by kernel_rfl) (fun _ => by kernel_rfl) (Eqv.int Tryz.underlying3) (EqF.nil.up (Nat.zero_le _)))))))) ((congrArg (decide (r126.xKind = p0.xKind) && ·) ((congrArg (decide (r126.xKey = p0.xKey) && ·) ((congrArg (decide (r126.xValue = p0.xValue) && ·) ((congrArg (decide (r126.xLo = p0.xLo) && ·) ((congrArg (decide (r126.xHi = p0.xHi) && ·) and_dec1).trans and_dec)).trans and_dec)).trans and_dec)).trans and_dec)).trans and_dec)))) decide_not.symm) (GX.take (v := .bool (decide (¬ ((r126.xKind = p0.xKind) ∧ (r126.xKey = p0.xKey) ∧ (r126.xValue = p0.xValue) ∧ (r126.xLo = p0.xLo) ∧ (r126.xHi = p0.xHi) ∧ (r126.xMost = p0.xMost))))) (rs := []) 9 rfl (by kernel_rfl) (fun _ _ => Yl.pickF rfl rfl rfl) (GX.done (by kernel_rfl) (Fin.then ?_)))
 by_cases h131 : (r126.xKind = p0.xKind) ∧ (r126.xKey = p0.xKey) ∧ (r126.xValue = p0.xValue) ∧ (r126.xLo = p0.xLo) ∧ (r126.xHi = p0.xHi) ∧ (r126.xMost = p0.xMost)
 refine jF (dF (not_not_intro h131)) (sk (sr (Kz (.pointer (some ⟨g114, 2, none⟩)) (Lz (.func (.func 129) #[] #[]) H130 0 Tryz.isAgg113 (La (OpD.cells p0) H130 1 Tryz.isAgg64 Tryz.sizeOf64 ?_)))))
 obtain ⟨r137, hr138⟩ : ∃ q, op_checkKey p0 = q := ⟨_, rfl⟩
 obtain ⟨D132, HP133, ro134, bk135, rr136⟩ := Own.enter0 H130
 refine WL.do rfl (Do.callV Tryz.call129 rfl rfl (op_checkKey_ok _ _ p0 r137 HP133 hr138) ?_)
 rintro _ w139 ⟨rfl, HQ140⟩
 have H141 := bk135 _ _ HQ140
 refine An rfl (rt (rs ?_))
 have H142 := H141.pk []
 obtain rfl : _ = r137 := hr.symm.trans (et (iN h24) (et (iN h64) (et (ip h104) (et (bnd_of hr127) (et (ip h131) (bnd_of hr138))))))
 exact ⟨rfl, H142, (by omega)⟩
 refine jT (dT h131) (sr (An rfl (rt (tR (rs ?_)))))
 have H143 := H130.pk []
 obtain rfl : _ = 40 := hr.symm.trans (et (iN h24) (et (iN h64) (et (ip h104) (et (bnd_of hr127) (iN h131)))))
 exact ⟨rfl, H143, (by omega)⟩
 by_cases h144 : p0.xKind = 4
 obtain ⟨D145, HP146, ro147, bk148, rr149⟩ := Own.enter0 H23
 refine cl Tryz.call126 (op_kindOf_4_ok _ _ p0.xKind HP146 (of_decide_eq_true (dT h144))) ?_
 rintro _ w151 ⟨rfl, HQ152⟩
 have H153 := bk148 _ _ HQ152
 refine Mz rfl (Kz (.agg #[.bool false, .func (.func 136) #[] #[], .func (.func 137) #[] #[], .func (.func 138) #[] #[], .func (.func 139) #[] #[]]) (Kz (.bool true) ?_))
 refine npw [.bool false, .nilFunc, .nilFunc, .nilFunc, .nilFunc] 162 H153 ?_
 intro g154 w155 H156
 refine sto [.bool false, .func (.func 136) #[] #[], .func (.func 137) #[] #[], .func (.func 138) #[] #[], .func (.func 139) #[] #[]] 0 H156 Tryz.sizeOf162 ?_
 intro w157 H158
 refine An rfl (Wp.seq (Wp.seq ?_))
 have H160 := H158.drew
 refine Wp.drawnX [] (fun W => ∃ L', Own w D W ([blk g154 [.bool false, .func (.func 136) #[] #[], .func (.func 137) #[] #[], .func (.func 138) #[] #[], .func (.func 139) #[] #[]] 162, blk g21 (OpD.cells p0) 64] ++ L')) (by kernel_rfl) (by kernel_rfl) (NoP.then (NoP.then NoP.base)) ⟨_, H160⟩ ?_
 revert H160
 generalize World.drew w157 = w159
 intro H160
 refine GX.take (v := .bool true) (rs := []) 0 rfl (by kernel_rfl) (fun _ _ => Yl.move rfl) (GX.take (v := .bool false) (rs := []) 1 rfl (by kernel_rfl) (fun _ _ => yk) (GX.take (v := .bool false) (rs := []) 2 rfl (by kernel_rfl) (fun _ _ => Yl.move rfl) (GX.takeG (v := .pointer (some ⟨g154, 1, none⟩)) (rs := []) 3 rfl rfl rfl rfl (by kernel_rfl) (fun _ _ => yk) (GX.takeG (v := .func (.func 136) #[] #[]) (rs := []) 4 rfl rfl rfl rfl (by kernel_rfl) (fun _ ⟨_, H9⟩ => Yl.load rfl (Lds.one Tryz.isAgg158 (Cls.of (H9.cls (i := 0) rfl) rfl))) (GX.takeG (v := .agg (OpD.cells p0).toArray) (rs := []) 5 rfl rfl rfl rfl (by kernel_rfl) (fun _ ⟨_, H9⟩ => Yl.load rfl (Lds.agg (cs := (OpD.cells p0)) Tryz.isAgg64 Tryz.sizeOf64 ((H9.cls (i := 1) rfl).lit (k := 0) (m := 6) rfl))) (GX.takeG (v := .agg (OpD.cells p0).toArray) (rs := []) 7 rfl rfl rfl rfl (by kernel_rfl) (fun _ ⟨_, H9⟩ => Yl.load rfl (Lds.agg (cs := (OpD.cells p0)) Tryz.isAgg64 Tryz.sizeOf64 ((H9.cls (i := 1) rfl).lit (k := 0) (m := 6) rfl))) ?_))))))
 obtain ⟨r166, hr167⟩ : ∃ q, op_ownScan p0 = q := ⟨_, rfl⟩
 obtain ⟨D161, HP162, ro163, bk164, rr165⟩ := Own.enter0 H160
 refine GX.doG 6 rfl rfl rfl rfl (by kernel_rfl) (Do.callV Tryz.call136 rfl rfl (op_ownScan_ok _ _ p0 r166 HP162 hr167) ?_)
 rintro _ w168 ⟨rfl, HQ169⟩
 have H170 := bk164 _ _ HQ169
 refine ⟨.inr ⟨_, H170⟩, ?_⟩
 refine GX.takeG (v := .bool (decide (¬ ((r166.xKind = p0.xKind) ∧ (r166.xKey = p0.xKey) ∧ (r166.xValue = p0.xValue) ∧ (r166.xLo = p0.xLo) ∧ (r166.xHi = p0.xHi) ∧ (r166.xMost = p0.xMost))))) (rs := []) 8 rfl rfl rfl rfl (by kernel_rfl) (fun _ _ => Yl.bool (e := !(decide ((r166.xKind = p0.xKind) ∧ (r166.xKey = p0.xKey) ∧ (r166.xValue = p0.xValue) ∧ (r166.xLo = p0.xLo) ∧ (r166.xHi = p0.xHi) ∧ (r166.xMost = p0.xMost)))) (Yl.neAgg rfl rfl (by kernel_rfl) rfl (Eqv.struct Tryz.underlying64 (by kernel_rfl) (EqF.dec (EqF.cons (u := .int .i64 r166.xKind) (v := .int .i64 p0.xKind) (by decide) (fun _ => by kernel_rfl) (fun _ => by kernel_rfl) (Eqv.int Tryz.underlying3) (EqF.cons (u := .string ⟨List.toArray r166.xKey⟩) (v := .string ⟨List.toArray p0.xKey⟩) (by decide) (fun _ => by kernel_rfl) (fun _ => by kernel_rfl) (Eqv.string Tryz.underlying9) (EqF.cons (u := .string ⟨List.toArray r166.xValue⟩) (v := .string ⟨List.toArray p0.xValue⟩) (by decide) (fun _ => by kernel_rfl) (fun _ => by kernel_rfl) (Eqv.string Tryz.underlying9) (EqF.cons (u := .string ⟨List.toArray r166.xLo⟩) (v := .string ⟨List.toArray p0.xLo⟩) (by decide) (fun _ => by kernel_rfl) (fun _ => by kernel_rfl) (Eqv.string Tryz.underlying9) (EqF.cons (u := .string ⟨List.toArray r166.xHi⟩) (v := .string ⟨List.toArray p0.xHi⟩) (by decide) (fun _ => by kernel_rfl) (fun _ => by kernel_rfl) (Eqv.string Tryz.underlying9) (EqF.cons (u := .int .i64 r166.xMost) (v := .int .i64 p0.xMost) (by decide) (fun _ => by kernel_rfl) (fun _ => by kernel_rfl) (Eqv.int Tryz.underlying3) (EqF.nil.up (Nat.zero_le _)))))))) ((congrArg (decide (r166.xKind = p0.xKind) && ·) ((congrArg (decide (r166.xKey = p0.xKey) && ·) ((congrArg (decide (r166.xValue = p0.xValue) && ·) ((congrArg (decide (r166.xLo = p0.xLo) && ·) ((congrArg (decide (r166.xHi = p0.xHi) && ·) and_dec1).trans and_dec)).trans and_dec)).trans and_dec)).trans and_dec)).trans and_dec)))) decide_not.symm) (GX.take (v := .bool (decide (¬ ((r166.xKind = p0.xKind) ∧ (r166.xKey = p0.xKey) ∧ (r166.xValue = p0.xValue) ∧ (r166.xLo = p0.xLo) ∧ (r166.xHi = p0.xHi) ∧ (r166.xMost = p0.xMost))))) (rs := []) 9 rfl (by kernel_rfl) (fun _ _ => Yl.pickF rfl rfl rfl) (GX.done (by kernel_rfl) (Fin.then ?_)))
 by_cases h171 : (r166.xKind = p0.xKind) ∧ (r166.xKey = p0.xKey) ∧ (r166.xValue = p0.xValue) ∧ (r166.xLo = p0.xLo) ∧ (r166.xHi = p0.xHi) ∧ (r166.xMost = p0.xMost)
 refine jF (dF (not_not_intro h171)) (sk (sr (Kz (.pointer (some ⟨g154, 2, none⟩)) (Lz (.func (.func 137) #[] #[]) H170 0 Tryz.isAgg113 (La (OpD.cells p0) H170 1 Tryz.isAgg64 Tryz.sizeOf64 ?_)))))
 obtain ⟨r177, hr178⟩ : ∃ q, op_checkScan p0 = q := ⟨_, rfl⟩
 obtain ⟨D172, HP173, ro174, bk175, rr176⟩ := Own.enter0 H170
 refine WL.do rfl (Do.callV Tryz.call137 rfl rfl (op_checkScan_ok _ _ p0 r177 HP173 hr178) ?_)
 rintro _ w179 ⟨rfl, HQ180⟩
 have H181 := bk175 _ _ HQ180
 refine An rfl (rt (rs ?_))
 have H182 := H181.pk []
 obtain rfl : _ = r177 := hr.symm.trans (et (iN h24) (et (iN h64) (et (iN h104) (et (ip h144) (et (bnd_of hr167) (et (ip h171) (bnd_of hr178)))))))
 exact ⟨rfl, H182, (by omega)⟩
 refine jT (dT h171) (sr (An rfl (rt (tR (rs ?_)))))
 have H183 := H170.pk []
 obtain rfl : _ = 40 := hr.symm.trans (et (iN h24) (et (iN h64) (et (iN h104) (et (ip h144) (et (bnd_of hr167) (iN h171))))))
 exact ⟨rfl, H183, (by omega)⟩
 by_cases h184 : p0.xKind = 5
 obtain ⟨D185, HP186, ro187, bk188, rr189⟩ := Own.enter0 H23
 refine cl Tryz.call126 (op_kindOf_5_ok _ _ p0.xKind HP186 (of_decide_eq_true (dT h184))) ?_
 rintro _ w191 ⟨rfl, HQ192⟩
 have H193 := bk188 _ _ HQ192
 refine Mz rfl (Kz (.agg #[.bool true, .func (.func 140) #[] #[], .func (.func 141) #[] #[], .func (.func 138) #[] #[], .func (.func 142) #[] #[]]) (Kz (.bool true) ?_))
 refine npw [.bool false, .nilFunc, .nilFunc, .nilFunc, .nilFunc] 162 H193 ?_
 intro g194 w195 H196
 refine sto [.bool true, .func (.func 140) #[] #[], .func (.func 141) #[] #[], .func (.func 138) #[] #[], .func (.func 142) #[] #[]] 0 H196 Tryz.sizeOf162 ?_
 intro w197 H198
 refine An rfl (Wp.seq (Wp.seq ?_))
 have H200 := H198.drew
 refine Wp.drawnX [] (fun W => ∃ L', Own w D W ([blk g194 [.bool true, .func (.func 140) #[] #[], .func (.func 141) #[] #[], .func (.func 138) #[] #[], .func (.func 142) #[] #[]] 162, blk g21 (OpD.cells p0) 64] ++ L')) (by kernel_rfl) (by kernel_rfl) (NoP.then (NoP.then NoP.base)) ⟨_, H200⟩ ?_
 revert H200
 generalize World.drew w197 = w199
 intro H200
 refine GX.take (v := .bool true) (rs := []) 0 rfl (by kernel_rfl) (fun _ _ => Yl.move rfl) (GX.take (v := .bool false) (rs := []) 1 rfl (by kernel_rfl) (fun _ _ => yk) (GX.take (v := .bool false) (rs := []) 2 rfl (by kernel_rfl) (fun _ _ => Yl.move rfl) (GX.takeG (v := .pointer (some ⟨g194, 1, none⟩)) (rs := []) 3 rfl rfl rfl rfl (by kernel_rfl) (fun _ _ => yk) (GX.takeG (v := .func (.func 140) #[] #[]) (rs := []) 4 rfl rfl rfl rfl (by kernel_rfl) (fun _ ⟨_, H9⟩ => Yl.load rfl (Lds.one Tryz.isAgg158 (Cls.of (H9.cls (i := 0) rfl) rfl))) (GX.takeG (v := .agg (OpD.cells p0).toArray) (rs := []) 5 rfl rfl rfl rfl (by kernel_rfl) (fun _ ⟨_, H9⟩ => Yl.load rfl (Lds.agg (cs := (OpD.cells p0)) Tryz.isAgg64 Tryz.sizeOf64 ((H9.cls (i := 1) rfl).lit (k := 0) (m := 6) rfl))) (GX.takeG (v := .agg (OpD.cells p0).toArray) (rs := []) 7 rfl rfl rfl rfl (by kernel_rfl) (fun _ ⟨_, H9⟩ => Yl.load rfl (Lds.agg (cs := (OpD.cells p0)) Tryz.isAgg64 Tryz.sizeOf64 ((H9.cls (i := 1) rfl).lit (k := 0) (m := 6) rfl))) ?_))))))
 obtain ⟨r206, hr207⟩ : ∃ q, op_ownRange p0 = q := ⟨_, rfl⟩
 obtain ⟨D201, HP202, ro203, bk204, rr205⟩ := Own.enter0 H200
 refine GX.doG 6 rfl rfl rfl rfl (by kernel_rfl) (Do.callV Tryz.call140 rfl rfl (op_ownRange_ok _ _ p0 r206 HP202 hr207) ?_)
 rintro _ w208 ⟨rfl, HQ209⟩
 have H210 := bk204 _ _ HQ209
 refine ⟨.inr ⟨_, H210⟩, ?_⟩
 refine GX.takeG (v := .bool (decide (¬ ((r206.xKind = p0.xKind) ∧ (r206.xKey = p0.xKey) ∧ (r206.xValue = p0.xValue) ∧ (r206.xLo = p0.xLo) ∧ (r206.xHi = p0.xHi) ∧ (r206.xMost = p0.xMost))))) (rs := []) 8 rfl rfl rfl rfl (by kernel_rfl) (fun _ _ => Yl.bool (e := !(decide ((r206.xKind = p0.xKind) ∧ (r206.xKey = p0.xKey) ∧ (r206.xValue = p0.xValue) ∧ (r206.xLo = p0.xLo) ∧ (r206.xHi = p0.xHi) ∧ (r206.xMost = p0.xMost)))) (Yl.neAgg rfl rfl (by kernel_rfl) rfl (Eqv.struct Tryz.underlying64 (by kernel_rfl) (EqF.dec (EqF.cons (u := .int .i64 r206.xKind) (v := .int .i64 p0.xKind) (by decide) (fun _ => by kernel_rfl) (fun _ => by kernel_rfl) (Eqv.int Tryz.underlying3) (EqF.cons (u := .string ⟨List.toArray r206.xKey⟩) (v := .string ⟨List.toArray p0.xKey⟩) (by decide) (fun _ => by kernel_rfl) (fun _ => by kernel_rfl) (Eqv.string Tryz.underlying9) (EqF.cons (u := .string ⟨List.toArray r206.xValue⟩) (v := .string ⟨List.toArray p0.xValue⟩) (by decide) (fun _ => by kernel_rfl) (fun _ => by kernel_rfl) (Eqv.string Tryz.underlying9) (EqF.cons (u := .string ⟨List.toArray r206.xLo⟩) (v := .string ⟨List.toArray p0.xLo⟩) (by decide) (fun _ => by kernel_rfl) (fun _ => by kernel_rfl) (Eqv.string Tryz.underlying9) (EqF.cons (u := .string ⟨List.toArray r206.xHi⟩) (v := .string ⟨List.toArray p0.xHi⟩) (by decide) (fun _ => by kernel_rfl) (fun _ => by kernel_rfl) (Eqv.string Tryz.underlying9) (EqF.cons (u := .int .i64 r206.xMost) (v := .int .i64 p0.xMost) (by decide) (fun _ => by kernel_rfl) (fun _ => by kernel_rfl) (Eqv.int Tryz.underlying3) (EqF.nil.up (Nat.zero_le _)))))))) ((congrArg (decide (r206.xKind = p0.xKind) && ·) ((congrArg (decide (r206.xKey = p0.xKey) && ·) ((congrArg (decide (r206.xValue = p0.xValue) && ·) ((congrArg (decide (r206.xLo = p0.xLo) && ·) ((congrArg (decide (r206.xHi = p0.xHi) && ·) and_dec1).trans and_dec)).trans and_dec)).trans and_dec)).trans and_dec)).trans and_dec)))) decide_not.symm) (GX.take (v := .bool (decide (¬ ((r206.xKind = p0.xKind) ∧ (r206.xKey = p0.xKey) ∧ (r206.xValue = p0.xValue) ∧ (r206.xLo = p0.xLo) ∧ (r206.xHi = p0.xHi) ∧ (r206.xMost = p0.xMost))))) (rs := []) 9 rfl (by kernel_rfl) (fun _ _ => Yl.pickF rfl rfl rfl) (GX.done (by kernel_rfl) (Fin.then ?_)))
 by_cases h211 : (r206.xKind = p0.xKind) ∧ (r206.xKey = p0.xKey) ∧ (r206.xValue = p0.xValue) ∧ (r206.xLo = p0.xLo) ∧ (r206.xHi = p0.xHi) ∧ (r206.xMost = p0.xMost)
 refine jF (dF (not_not_intro h211)) (sk (sr (Kz (.pointer (some ⟨g194, 2, none⟩)) (Lz (.func (.func 141) #[] #[]) H210 0 Tryz.isAgg113 (La (OpD.cells p0) H210 1 Tryz.isAgg64 Tryz.sizeOf64 ?_)))))
 obtain ⟨r217, hr218⟩ : ∃ q, op_checkRange p0 = q := ⟨_, rfl⟩
 obtain ⟨D212, HP213, ro214, bk215, rr216⟩ := Own.enter0 H210
 refine WL.do rfl (Do.callV Tryz.call141 rfl rfl (op_checkRange_ok _ _ p0 r217 HP213 hr218) ?_)
 rintro _ w219 ⟨rfl, HQ220⟩
 have H221 := bk215 _ _ HQ220
 refine An rfl (rt (rs ?_))
 have H222 := H221.pk []
 obtain rfl : _ = r217 := hr.symm.trans (et (iN h24) (et (iN h64) (et (iN h104) (et (iN h144) (et (ip h184) (et (bnd_of hr207) (et (ip h211) (bnd_of hr218))))))))
 exact ⟨rfl, H222, (by omega)⟩
 refine jT (dT h211) (sr (An rfl (rt (tR (rs ?_)))))
 have H223 := H210.pk []
 obtain rfl : _ = 40 := hr.symm.trans (et (iN h24) (et (iN h64) (et (iN h104) (et (iN h144) (et (ip h184) (et (bnd_of hr207) (iN h211)))))))
 exact ⟨rfl, H223, (by omega)⟩
 obtain ⟨D224, HP225, ro226, bk227, rr228⟩ := Own.enter0 H23
 refine cl Tryz.call126 (op_kindOf_no_ok _ _ p0.xKind HP225 (by omega) (by omega) (by omega) (by omega) (by omega)) ?_
 rintro _ w230 ⟨rfl, HQ231⟩
 have H232 := bk227 _ _ HQ231
 refine Mz rfl (Kz (.agg #[.bool false, .nilFunc, .nilFunc, .nilFunc, .nilFunc]) (Kz (.bool false) ?_))
 refine npw [.bool false, .nilFunc, .nilFunc, .nilFunc, .nilFunc] 162 H232 ?_
 intro g233 w234 H235
 refine sto [.bool false, .nilFunc, .nilFunc, .nilFunc, .nilFunc] 0 H235 Tryz.sizeOf162 ?_
 intro w236 H237
 refine An rfl (Wp.seq (Wp.seq ?_))
 have H239 := H237.drew
 refine Wp.drawnX [] (fun W => ∃ L', Own w D W ([blk g233 [.bool false, .nilFunc, .nilFunc, .nilFunc, .nilFunc] 162, blk g21 (OpD.cells p0) 64] ++ L')) (by kernel_rfl) (by kernel_rfl) (NoP.then (NoP.then NoP.base)) ⟨_, H239⟩ ?_
 revert H239
 generalize World.drew w236 = w238
 intro H239
 refine GX.take (v := .bool false) (rs := []) 0 rfl (by kernel_rfl) (fun _ _ => Yl.move rfl) (GX.take (v := .bool true) (rs := []) 1 rfl (by kernel_rfl) (fun _ _ => yk) (GX.take (v := .bool true) (rs := []) 2 rfl (by kernel_rfl) (fun _ _ => Yl.move rfl) (GX.skipG (rs := []) 3 rfl rfl rfl rfl (by kernel_rfl) (GX.skipG (rs := []) 4 rfl rfl rfl rfl (by kernel_rfl) (GX.skipG (rs := []) 5 rfl rfl rfl rfl (by kernel_rfl) (GX.skipG (rs := []) 6 rfl rfl rfl rfl (by kernel_rfl) (GX.skipG (rs := []) 7 rfl rfl rfl rfl (by kernel_rfl) (GX.skipG (rs := []) 8 rfl rfl rfl rfl (by kernel_rfl) (GX.take (v := .bool true) (rs := []) 9 rfl (by kernel_rfl) (fun _ _ => Yl.pickT rfl rfl rfl) (GX.done (by kernel_rfl) (Fin.then (jt (sr (An rfl (rt (tR (rs ?_)))))))))))))))))
 have H240 := H239.pk []
 obtain rfl : _ = 40 := hr.symm.trans (et (iN h24) (et (iN h64) (et (iN h104) (et (iN h144) (iN h184)))))
 exact ⟨rfl, H240, (by omega)⟩
def op_checkEach_L0 : List OpD → Unit ⊕ Int
  | [] => Sum.inl ()
  | x33 :: q22 => bnd (op_CheckOp x33) fun yr46 => if yr46 = 0 then op_checkEach_L0 q22 else Sum.inr (yr46)
def op_checkEach (l0 : List OpD) : Int :=
 lp (op_checkEach_L0 l0) fun _ => 0
set_option maxRecDepth 100000 in
theorem op_checkEach_ok (w : World) (D : Nat → Prop) (A0 : Option Addr) (n0 c0 : Nat) (l0 : List OpD) (r0 : Int) (H : Own w D w []) (hx0 : Ro w D fun w' => Rds w' 6 A0 n0 (List.flatMap OpD.cells l0)) (hn0 : n0 = l0.length) (hl0 : l0.length ≤ 9223372036854775807) (hr : op_checkEach l0 = r0) :
    Calls Tryz.prog 125 #[.slice A0 n0 c0] w (Ret fun v w' => v = .int .i64 r0 ∧ Own w D w' []) := by
 subst hn0
 refine Calls.body (args := [.slice A0 l0.length c0]) Tryz.func125 rfl rfl rfl ?_
 show Wp _ _ _ [(0, .slice A0 l0.length c0)] _ _
 refine sr (An rfl (Wp.seq (sr (Mz rfl (Kz (.int .i64 ((l0.length : Nat) : Int)) (Mn rfl (bo ?_)))))))
 have H23 : Own w D w [] := H.pk []
 obtain ⟨I27, hI28⟩ : ∃ q : Nat → World → Prop, q = fun (i : Nat) w' => Own w D w' [] ∧ (i ≤ l0.length ∧ op_checkEach_L0 l0 = op_checkEach_L0 (List.drop i l0)) := ⟨_, rfl⟩
 have dm29 : ∀ {k21 : Nat} {w' : World}, I27 k21 w' ↔ Own w D w' [] ∧ k21 ≤ l0.length ∧ op_checkEach_L0 l0 = op_checkEach_L0 (List.drop k21 l0) := by intros; subst hI28; exact Iff.rfl
 refine Wp.loop (fun i : Nat => [(2, .int .i64 0), (8, .int .i64 ((i : Nat) : Int)), (7, .int .i64 ((l0.length : Nat) : Int)), (6, .slice A0 l0.length c0)]) I27 (fun i => l0.length - i) 0 ⟨rfl, rfl, rfl, rfl, trivial⟩ (dm29.2 ⟨H23, by omega, rfl⟩) ?_
 rintro k21 w24 hf26
 show Wp _ _ _ [(2, .int .i64 0), (8, .int .i64 ((k21 : Nat) : Int)), (7, .int .i64 ((l0.length : Nat) : Int)), (6, .slice A0 l0.length c0)] _ _
 obtain ⟨H25, hi31, hq30⟩ := dm29.1 hf26
 refine sr (Kz (.bool (decide (((k21 : Nat) : Int) < ((l0.length : Nat) : Int)))) (nt (Wp.seq ?_)))
 by_cases h32 : ((k21 : Nat) : Int) < ((l0.length : Nat) : Int)
 obtain ⟨x33, hx34⟩ := rds_at (ls := l0) (i := k21) OpD.len (by decide) (H25.ro hx0) (by first | omega | (simp; done) | (simp; omega))
 have hd35 := drop_at hx34
 refine jT (dT h32) (sk (Wp.seq (bo (sr (fw (.pointer (some ⟨ab A0, ao A0 + k21 * 6, none⟩)) (Yl.indexAddr (El25) rfl rfl ((H25.ro hx0).addr (i := k21) (by omega)) (by omega)) (fw (.agg (OpD.cells x33).toArray) (Yl.load rfl (Lds.agg (cs := (OpD.cells x33)) Tryz.isAgg64 Tryz.sizeOf64 ((H25.ro hx0).elem OpD.len hx34 (by decide)))) ?_))))))
 refine npw [.int .i64 0, .string ⟨List.toArray ([])⟩, .string ⟨List.toArray ([])⟩, .string ⟨List.toArray ([])⟩, .string ⟨List.toArray ([])⟩, .int .i64 0] 64 H25 ?_
 intro g36 w37 H38
 refine sto (OpD.cells x33) 0 H38 Tryz.sizeOf64 ?_
 intro w39 H40
 refine ns (La (OpD.cells x33) H40 0 Tryz.isAgg64 Tryz.sizeOf64 ?_)
 obtain ⟨r46, hr47⟩ : ∃ q, op_CheckOp x33 = q := ⟨_, rfl⟩
 obtain ⟨D41, HP42, ro43, bk44, rr45⟩ := Own.enter0 H40
 refine cl Tryz.call120 (op_CheckOp_ok _ _ x33 r46 HP42 hr47) ?_
 rintro _ w48 ⟨rfl, HQ49, hk51⟩
 have H50 := bk44 _ _ HQ49
 replace hk51 : ¬ (r46 = 0) ∨ (1 ≤ x33.xKind ∧ x33.xKind ≤ 5) := hk51
 refine Ar rfl (Mz rfl (fw (.bool (decide (¬ (r46 = 0)))) (Yl.bool (e := !(decide (r46 = 0))) yk decide_not.symm) (nt ?_)))
 by_cases h52 : r46 = 0
 refine jF (dF (not_not_intro h52)) (Wp.skip (bN (Fin.then (Wp.region (fw (.int .i64 ((k21 + 1 : Nat) : Int)) (Yl.int (e := IntKind.i64.wrap (((k21 : Nat) : Int) + 1)) yk (by rw [IntWalk.i64_in _ (by omega)]; omega)) (Mz rfl (WL.nil ?_)))))))
 have H53 := H50.pk []
 exact Fin.round (k21 + 1) ⟨rfl, rfl, rfl, rfl, trivial⟩ (dm29.2 ⟨H53, by omega, et (hq30) (et (congrArg (fun q => op_checkEach_L0 q) hd35) (et (bnd_of hr47) (ip h52)))⟩) (by show l0.length - (k21 + 1) < l0.length - k21; omega)
 refine jT (dT h52) (sr (Mz rfl (An rfl (rt (bR (tR (tR (bR (tR (rs ?_))))))))))
 have H54 := H50.pk []
 obtain rfl : _ = r46 := hr.symm.trans (lp_r (et (hq30) (et (congrArg (fun q => op_checkEach_L0 q) hd35) (et (bnd_of hr47) (iN h52)))))
 exact ⟨rfl, H54⟩
 refine jF (dF h32) (Wp.exit (Fin.thenX ?_))
 have hL55 : op_checkEach_L0 l0 = Sum.inl () := et (hq30) (et (congrArg (fun q => op_checkEach_L0 q) (drop_end (ls := l0) (i := k21) (by omega))) rfl)
 refine Fin.thenX (Fin.blockX (Fin.then (sr (An rfl (rt (rs ?_))))))
 have H56 := H25.pk []
 obtain rfl : _ = 0 := hr.symm.trans (lp_l hL55)
 exact ⟨rfl, H56⟩
def op_Check (l0 : List OpD) : Int :=
 if ((l0.length : Nat) : Int) < 1 then 3 else if ((l0.length : Nat) : Int) > 4 then 3 else bnd (op_checkEach l0) fun yr30 => yr30
set_option maxRecDepth 100000 in
theorem op_Check_ok (w : World) (D : Nat → Prop) (A0 : Option Addr) (n0 c0 : Nat) (l0 : List OpD) (r0 : Int) (H : Own w D w []) (hx0 : Ro w D fun w' => Rds w' 6 A0 n0 (List.flatMap OpD.cells l0)) (hn0 : n0 = l0.length) (hl0 : l0.length ≤ 9223372036854775807) (hr : op_Check l0 = r0) :
    Calls Tryz.prog 118 #[.slice A0 n0 c0] w (Ret fun v w' => v = .int .i64 r0 ∧ Own w D w' []) := by
 subst hn0
 refine Calls.body (args := [.slice A0 l0.length c0]) Tryz.func118 rfl rfl rfl ?_
 show Wp _ _ _ [(0, .slice A0 l0.length c0)] _ _
 refine sr (An rfl (Wp.seq (sr (Mz rfl (Kz (.int .i64 ((l0.length : Nat) : Int)) (Kz (.bool (decide (((l0.length : Nat) : Int) < 1))) (Mz rfl ?_)))))))
 by_cases h21 : ((l0.length : Nat) : Int) < 1
 refine Sz (dT h21) (Sz (dT h21) (Sz (dT h21) (fw (.bool true) (Yl.pickT rfl (dT h21) rfl) (nt (jt (sr (An rfl (rt (tR (rs ?_))))))))))
 have H22 : Own w D w [] := H.pk []
 obtain rfl : _ = 3 := hr.symm.trans (ip h21)
 exact ⟨rfl, H22⟩
 refine gw (.slice A0 l0.length c0) (dF h21) (Yl.move rfl) (Gz (.int .i64 ((l0.length : Nat) : Int)) (dF h21) (Gz (.bool (decide (((l0.length : Nat) : Int) > 4))) (dF h21) (fw (.bool (decide (((l0.length : Nat) : Int) > 4))) (Yl.pickF rfl (dF h21) rfl) (nt ?_))))
 by_cases h23 : ((l0.length : Nat) : Int) > 4
 refine jT (dT h23) (sr (An rfl (rt (tR (rs ?_)))))
 have H24 : Own w D w [] := H.pk []
 obtain rfl : _ = 3 := hr.symm.trans (et (iN h21) (ip h23))
 exact ⟨rfl, H24⟩
 refine jF (dF h23) (sk (sr (Mz rfl ?_)))
 obtain ⟨r30, hr31⟩ : ∃ q, op_checkEach l0 = q := ⟨_, rfl⟩
 obtain ⟨D25, HP26, ro27, bk28, rr29⟩ := Own.enter0 H
 refine cl Tryz.call125 (op_checkEach_ok _ _ A0 l0.length c0 l0 r30 HP26 (ro27 _ hx0) rfl (by omega) hr31) ?_
 rintro _ w32 ⟨rfl, HQ33⟩
 have H34 := bk28 _ _ HQ33
 refine An rfl (rt (rs ?_))
 have H35 := H34.pk []
 obtain rfl : _ = r30 := hr.symm.trans (et (iN h21) (et (iN h23) (bnd_of hr31)))
 exact ⟨rfl, H35⟩
def wire_allOps_L0 : List OpD → Unit ⊕ Bool
  | [] => Sum.inl ()
  | x33 :: q22 => bnd (op_CheckOp x33) fun yr46 => if yr46 = 0 then wire_allOps_L0 q22 else Sum.inr (false)
def wire_allOps (l0 : List OpD) : Bool :=
 lp (wire_allOps_L0 l0) fun _ => true
set_option maxRecDepth 100000 in
theorem wire_allOps_ok (w : World) (D : Nat → Prop) (A0 : Option Addr) (n0 c0 : Nat) (l0 : List OpD) (r0 : Bool) (H : Own w D w []) (hx0 : Ro w D fun w' => Rds w' 6 A0 n0 (List.flatMap OpD.cells l0)) (hn0 : n0 = l0.length) (hl0 : l0.length ≤ 9223372036854775807) (hr : wire_allOps l0 = r0) :
    Calls Tryz.prog 119 #[.slice A0 n0 c0, .func (.func 120) #[] #[]] w (Ret fun v w' => v = .bool r0 ∧ Own w D w' []) := by
 subst hn0
 refine Calls.body (args := [.slice A0 l0.length c0, .func (.func 120) #[] #[]]) Tryz.func119 rfl rfl rfl ?_
 show Wp _ _ _ [(0, .slice A0 l0.length c0), (1, .func (.func 120) #[] #[])] _ _
 refine sr (An rfl (Wp.seq (sr (Mz rfl (Kz (.int .i64 ((l0.length : Nat) : Int)) (Mn rfl (bo ?_)))))))
 have H23 : Own w D w [] := H.pk []
 obtain ⟨I27, hI28⟩ : ∃ q : Nat → World → Prop, q = fun (i : Nat) w' => Own w D w' [] ∧ (i ≤ l0.length ∧ wire_allOps_L0 l0 = wire_allOps_L0 (List.drop i l0)) := ⟨_, rfl⟩
 have dm29 : ∀ {k21 : Nat} {w' : World}, I27 k21 w' ↔ Own w D w' [] ∧ k21 ≤ l0.length ∧ wire_allOps_L0 l0 = wire_allOps_L0 (List.drop k21 l0) := by intros; subst hI28; exact Iff.rfl
 refine Wp.loop (fun i : Nat => [(4, .bool false), (9, .int .i64 ((i : Nat) : Int)), (8, .int .i64 ((l0.length : Nat) : Int)), (7, .slice A0 l0.length c0), (1, .func (.func 120) #[] #[])]) I27 (fun i => l0.length - i) 0 ⟨rfl, rfl, rfl, rfl, rfl, trivial⟩ (dm29.2 ⟨H23, by omega, rfl⟩) ?_
 rintro k21 w24 hf26
 show Wp _ _ _ [(4, .bool false), (9, .int .i64 ((k21 : Nat) : Int)), (8, .int .i64 ((l0.length : Nat) : Int)), (7, .slice A0 l0.length c0), (1, .func (.func 120) #[] #[])] _ _
 obtain ⟨H25, hi31, hq30⟩ := dm29.1 hf26
 refine sr (Kz (.bool (decide (((k21 : Nat) : Int) < ((l0.length : Nat) : Int)))) (nt (Wp.seq ?_)))
 by_cases h32 : ((k21 : Nat) : Int) < ((l0.length : Nat) : Int)
 obtain ⟨x33, hx34⟩ := rds_at (ls := l0) (i := k21) OpD.len (by decide) (H25.ro hx0) (by first | omega | (simp; done) | (simp; omega))
 have hd35 := drop_at hx34
 refine jT (dT h32) (sk (Wp.seq (bo (sr (fw (.pointer (some ⟨ab A0, ao A0 + k21 * 6, none⟩)) (Yl.indexAddr (El25) rfl rfl ((H25.ro hx0).addr (i := k21) (by omega)) (by omega)) (fw (.agg (OpD.cells x33).toArray) (Yl.load rfl (Lds.agg (cs := (OpD.cells x33)) Tryz.isAgg64 Tryz.sizeOf64 ((H25.ro hx0).elem OpD.len hx34 (by decide)))) ?_))))))
 refine npw [.int .i64 0, .string ⟨List.toArray ([])⟩, .string ⟨List.toArray ([])⟩, .string ⟨List.toArray ([])⟩, .string ⟨List.toArray ([])⟩, .int .i64 0] 64 H25 ?_
 intro g36 w37 H38
 refine sto (OpD.cells x33) 0 H38 Tryz.sizeOf64 ?_
 intro w39 H40
 refine ns (Mz rfl (La (OpD.cells x33) H40 0 Tryz.isAgg64 Tryz.sizeOf64 ?_))
 obtain ⟨r46, hr47⟩ : ∃ q, op_CheckOp x33 = q := ⟨_, rfl⟩
 obtain ⟨D41, HP42, ro43, bk44, rr45⟩ := Own.enter0 H40
 refine WL.do rfl (Do.callV Tryz.call120 rfl rfl (op_CheckOp_ok _ _ x33 r46 HP42 hr47) ?_)
 rintro _ w48 ⟨rfl, HQ49, hk51⟩
 have H50 := bk44 _ _ HQ49
 replace hk51 : ¬ (r46 = 0) ∨ (1 ≤ x33.xKind ∧ x33.xKind ≤ 5) := hk51
 refine fw (.bool (decide (¬ (r46 = 0)))) (Yl.bool (e := !(decide (r46 = 0))) yk decide_not.symm) (nt ?_)
 by_cases h52 : r46 = 0
 refine jF (dF (not_not_intro h52)) (Wp.skip (bN (Fin.then (Wp.region (fw (.int .i64 ((k21 + 1 : Nat) : Int)) (Yl.int (e := IntKind.i64.wrap (((k21 : Nat) : Int) + 1)) yk (by rw [IntWalk.i64_in _ (by omega)]; omega)) (Mz rfl (WL.nil ?_)))))))
 have H53 := H50.pk []
 exact Fin.round (k21 + 1) ⟨rfl, rfl, rfl, rfl, rfl, trivial⟩ (dm29.2 ⟨H53, by omega, et (hq30) (et (congrArg (fun q => wire_allOps_L0 q) hd35) (et (bnd_of hr47) (ip h52)))⟩) (by show l0.length - (k21 + 1) < l0.length - k21; omega)
 refine jT (dT h52) (sr (An rfl (rt (bR (tR (tR (bR (tR (rs ?_)))))))))
 have H54 := H50.pk []
 obtain rfl : _ = false := hr.symm.trans (lp_r (et (hq30) (et (congrArg (fun q => wire_allOps_L0 q) hd35) (et (bnd_of hr47) (iN h52)))))
 exact ⟨rfl, H54⟩
 refine jF (dF h32) (Wp.exit (Fin.thenX ?_))
 have hL55 : wire_allOps_L0 l0 = Sum.inl () := et (hq30) (et (congrArg (fun q => wire_allOps_L0 q) (drop_end (ls := l0) (i := k21) (by omega))) rfl)
 refine Fin.thenX (Fin.blockX (Fin.then (sr (An rfl (rt (rs ?_))))))
 have H56 := H25.pk []
 obtain rfl : _ = true := hr.symm.trans (lp_l hL55)
 exact ⟨rfl, H56⟩
def op_Writes (p0 : OpD) : Bool :=
 if p0.xKind = 1 then false else if p0.xKind = 2 then true else if p0.xKind = 3 then true else if p0.xKind = 4 then false else if p0.xKind = 5 then true else false
set_option maxRecDepth 100000 in
theorem op_Writes_ok (w : World) (D : Nat → Prop) (p0 : OpD) (r0 : Bool) (H : Own w D w [])  (hr : op_Writes p0 = r0) :
    Calls Tryz.prog 127 #[.agg (OpD.cells p0).toArray] w (Ret fun v w' => v = .bool r0 ∧ Own w D w' []) := by
 refine Calls.body (args := [.agg (OpD.cells p0).toArray]) Tryz.func127 rfl rfl rfl ?_
 show Wp _ _ _ [(0, .agg (OpD.cells p0).toArray)] _ _
 refine sr ?_
 refine npw (OpD.cells p0) 64 H ?_
 intro g21 w22 H23
 refine Ar rfl (Kz (.pointer (some ⟨g21, 0, none⟩)) (Lz (.int .i64 p0.xKind) H23 0 Tryz.isAgg3 ?_))
 by_cases h24 : p0.xKind = 1
 obtain ⟨D25, HP26, ro27, bk28, rr29⟩ := Own.enter0 H23
 refine cl Tryz.call126 (op_kindOf_1_ok _ _ p0.xKind HP26 (of_decide_eq_true (dT h24))) ?_
 rintro _ w31 ⟨rfl, HQ32⟩
 have H33 := bk28 _ _ HQ32
 refine Mz rfl (Kz (.agg #[.bool false, .func (.func 128) #[] #[], .func (.func 129) #[] #[], .func (.func 130) #[] #[], .func (.func 131) #[] #[]]) (Kz (.bool true) ?_))
 refine npw [.bool false, .nilFunc, .nilFunc, .nilFunc, .nilFunc] 162 H33 ?_
 intro g34 w35 H36
 refine sto [.bool false, .func (.func 128) #[] #[], .func (.func 129) #[] #[], .func (.func 130) #[] #[], .func (.func 131) #[] #[]] 0 H36 Tryz.sizeOf162 ?_
 intro w37 H38
 refine An rfl (Wp.seq ?_)
 have H39 := H38.pk [0]
 refine Wp.region (Mz rfl (Mz rfl (Gz (.pointer (some ⟨g34, 0, none⟩)) rfl (Gl (.bool false) rfl H39 0 Tryz.isAgg4 (fw (.bool false) (Yl.pickT rfl rfl rfl) (An rfl (rt (rs ?_))))))))
 have H40 := H39.pk []
 obtain rfl : _ = false := hr.symm.trans (ip h24)
 exact ⟨rfl, H40⟩
 by_cases h41 : p0.xKind = 2
 obtain ⟨D42, HP43, ro44, bk45, rr46⟩ := Own.enter0 H23
 refine cl Tryz.call126 (op_kindOf_2_ok _ _ p0.xKind HP43 (of_decide_eq_true (dT h41))) ?_
 rintro _ w48 ⟨rfl, HQ49⟩
 have H50 := bk45 _ _ HQ49
 refine Mz rfl (Kz (.agg #[.bool true, .func (.func 132) #[] #[], .func (.func 133) #[] #[], .func (.func 130) #[] #[], .func (.func 134) #[] #[]]) (Kz (.bool true) ?_))
 refine npw [.bool false, .nilFunc, .nilFunc, .nilFunc, .nilFunc] 162 H50 ?_
 intro g51 w52 H53
 refine sto [.bool true, .func (.func 132) #[] #[], .func (.func 133) #[] #[], .func (.func 130) #[] #[], .func (.func 134) #[] #[]] 0 H53 Tryz.sizeOf162 ?_
 intro w54 H55
 refine An rfl (Wp.seq ?_)
 have H56 := H55.pk [0]
 refine Wp.region (Mz rfl (Mz rfl (Gz (.pointer (some ⟨g51, 0, none⟩)) rfl (Gl (.bool true) rfl H56 0 Tryz.isAgg4 (fw (.bool true) (Yl.pickT rfl rfl rfl) (An rfl (rt (rs ?_))))))))
 have H57 := H56.pk []
 obtain rfl : _ = true := hr.symm.trans (et (iN h24) (ip h41))
 exact ⟨rfl, H57⟩
 by_cases h58 : p0.xKind = 3
 obtain ⟨D59, HP60, ro61, bk62, rr63⟩ := Own.enter0 H23
 refine cl Tryz.call126 (op_kindOf_3_ok _ _ p0.xKind HP60 (of_decide_eq_true (dT h58))) ?_
 rintro _ w65 ⟨rfl, HQ66⟩
 have H67 := bk62 _ _ HQ66
 refine Mz rfl (Kz (.agg #[.bool true, .func (.func 128) #[] #[], .func (.func 129) #[] #[], .func (.func 130) #[] #[], .func (.func 135) #[] #[]]) (Kz (.bool true) ?_))
 refine npw [.bool false, .nilFunc, .nilFunc, .nilFunc, .nilFunc] 162 H67 ?_
 intro g68 w69 H70
 refine sto [.bool true, .func (.func 128) #[] #[], .func (.func 129) #[] #[], .func (.func 130) #[] #[], .func (.func 135) #[] #[]] 0 H70 Tryz.sizeOf162 ?_
 intro w71 H72
 refine An rfl (Wp.seq ?_)
 have H73 := H72.pk [0]
 refine Wp.region (Mz rfl (Mz rfl (Gz (.pointer (some ⟨g68, 0, none⟩)) rfl (Gl (.bool true) rfl H73 0 Tryz.isAgg4 (fw (.bool true) (Yl.pickT rfl rfl rfl) (An rfl (rt (rs ?_))))))))
 have H74 := H73.pk []
 obtain rfl : _ = true := hr.symm.trans (et (iN h24) (et (iN h41) (ip h58)))
 exact ⟨rfl, H74⟩
 by_cases h75 : p0.xKind = 4
 obtain ⟨D76, HP77, ro78, bk79, rr80⟩ := Own.enter0 H23
 refine cl Tryz.call126 (op_kindOf_4_ok _ _ p0.xKind HP77 (of_decide_eq_true (dT h75))) ?_
 rintro _ w82 ⟨rfl, HQ83⟩
 have H84 := bk79 _ _ HQ83
 refine Mz rfl (Kz (.agg #[.bool false, .func (.func 136) #[] #[], .func (.func 137) #[] #[], .func (.func 138) #[] #[], .func (.func 139) #[] #[]]) (Kz (.bool true) ?_))
 refine npw [.bool false, .nilFunc, .nilFunc, .nilFunc, .nilFunc] 162 H84 ?_
 intro g85 w86 H87
 refine sto [.bool false, .func (.func 136) #[] #[], .func (.func 137) #[] #[], .func (.func 138) #[] #[], .func (.func 139) #[] #[]] 0 H87 Tryz.sizeOf162 ?_
 intro w88 H89
 refine An rfl (Wp.seq ?_)
 have H90 := H89.pk [0]
 refine Wp.region (Mz rfl (Mz rfl (Gz (.pointer (some ⟨g85, 0, none⟩)) rfl (Gl (.bool false) rfl H90 0 Tryz.isAgg4 (fw (.bool false) (Yl.pickT rfl rfl rfl) (An rfl (rt (rs ?_))))))))
 have H91 := H90.pk []
 obtain rfl : _ = false := hr.symm.trans (et (iN h24) (et (iN h41) (et (iN h58) (ip h75))))
 exact ⟨rfl, H91⟩
 by_cases h92 : p0.xKind = 5
 obtain ⟨D93, HP94, ro95, bk96, rr97⟩ := Own.enter0 H23
 refine cl Tryz.call126 (op_kindOf_5_ok _ _ p0.xKind HP94 (of_decide_eq_true (dT h92))) ?_
 rintro _ w99 ⟨rfl, HQ100⟩
 have H101 := bk96 _ _ HQ100
 refine Mz rfl (Kz (.agg #[.bool true, .func (.func 140) #[] #[], .func (.func 141) #[] #[], .func (.func 138) #[] #[], .func (.func 142) #[] #[]]) (Kz (.bool true) ?_))
 refine npw [.bool false, .nilFunc, .nilFunc, .nilFunc, .nilFunc] 162 H101 ?_
 intro g102 w103 H104
 refine sto [.bool true, .func (.func 140) #[] #[], .func (.func 141) #[] #[], .func (.func 138) #[] #[], .func (.func 142) #[] #[]] 0 H104 Tryz.sizeOf162 ?_
 intro w105 H106
 refine An rfl (Wp.seq ?_)
 have H107 := H106.pk [0]
 refine Wp.region (Mz rfl (Mz rfl (Gz (.pointer (some ⟨g102, 0, none⟩)) rfl (Gl (.bool true) rfl H107 0 Tryz.isAgg4 (fw (.bool true) (Yl.pickT rfl rfl rfl) (An rfl (rt (rs ?_))))))))
 have H108 := H107.pk []
 obtain rfl : _ = true := hr.symm.trans (et (iN h24) (et (iN h41) (et (iN h58) (et (iN h75) (ip h92)))))
 exact ⟨rfl, H108⟩
 obtain ⟨D109, HP110, ro111, bk112, rr113⟩ := Own.enter0 H23
 refine cl Tryz.call126 (op_kindOf_no_ok _ _ p0.xKind HP110 (by omega) (by omega) (by omega) (by omega) (by omega)) ?_
 rintro _ w115 ⟨rfl, HQ116⟩
 have H117 := bk112 _ _ HQ116
 refine Mz rfl (Kz (.agg #[.bool false, .nilFunc, .nilFunc, .nilFunc, .nilFunc]) (Kz (.bool false) ?_))
 refine npw [.bool false, .nilFunc, .nilFunc, .nilFunc, .nilFunc] 162 H117 ?_
 intro g118 w119 H120
 refine sto [.bool false, .nilFunc, .nilFunc, .nilFunc, .nilFunc] 0 H120 Tryz.sizeOf162 ?_
 intro w121 H122
 refine An rfl (Wp.seq ?_)
 have H123 := H122.pk [0]
 refine Wp.region (Mz rfl (Mz rfl (Sz rfl (Sz rfl (fw (.bool false) (Yl.pickF rfl rfl rfl) (An rfl (rt (rs ?_))))))))
 have H124 := H123.pk []
 obtain rfl : _ = false := hr.symm.trans (et (iN h24) (et (iN h41) (et (iN h58) (et (iN h75) (iN h92)))))
 exact ⟨rfl, H124⟩
def wire_checkWrite (p0 : OpD) : Int :=
 bnd (op_Writes p0) fun yr29 => if yr29 = true then bnd (op_CheckOp p0) fun yr40 => yr40 else 40
set_option maxRecDepth 100000 in
theorem wire_checkWrite_ok (w : World) (D : Nat → Prop) (p0 : OpD) (r0 : Int) (H : Own w D w [])  (hr : wire_checkWrite p0 = r0) :
    Calls Tryz.prog 121 #[.agg (OpD.cells p0).toArray] w (Ret fun v w' => v = .int .i64 r0 ∧ Own w D w' []) := by
 refine Calls.body (args := [.agg (OpD.cells p0).toArray]) Tryz.func121 rfl rfl rfl ?_
 show Wp _ _ _ [(0, .agg (OpD.cells p0).toArray)] _ _
 refine sr ?_
 refine npw (OpD.cells p0) 64 H ?_
 intro g21 w22 H23
 refine An rfl (Wp.seq (sr (La (OpD.cells p0) H23 0 Tryz.isAgg64 Tryz.sizeOf64 ?_)))
 obtain ⟨r29, hr30⟩ : ∃ q, op_Writes p0 = q := ⟨_, rfl⟩
 obtain ⟨D24, HP25, ro26, bk27, rr28⟩ := Own.enter0 H23
 refine cl Tryz.call127 (op_Writes_ok _ _ p0 r29 HP25 hr30) ?_
 rintro _ w31 ⟨rfl, HQ32⟩
 have H33 := bk27 _ _ HQ32
 refine Kz (.bool (!r29)) (nt ?_)
 rcases Bool.eq_false_or_eq_true (r29) with h34 | h34
 refine jF (cn h34) (sk (sr (La (OpD.cells p0) H33 0 Tryz.isAgg64 Tryz.sizeOf64 ?_)))
 obtain ⟨r40, hr41⟩ : ∃ q, op_CheckOp p0 = q := ⟨_, rfl⟩
 obtain ⟨D35, HP36, ro37, bk38, rr39⟩ := Own.enter0 H33
 refine cl Tryz.call120 (op_CheckOp_ok _ _ p0 r40 HP36 hr41) ?_
 rintro _ w42 ⟨rfl, HQ43, hk45⟩
 have H44 := bk38 _ _ HQ43
 replace hk45 : ¬ (r40 = 0) ∨ (1 ≤ p0.xKind ∧ p0.xKind ≤ 5) := hk45
 refine An rfl (rt (rs ?_))
 have H46 := H44.pk []
 obtain rfl : _ = r40 := hr.symm.trans (et (bnd_of hr30) (et (ip h34) (bnd_of hr41)))
 exact ⟨rfl, H46⟩
 refine jT (cn h34) (sr (An rfl (rt (tR (rs ?_)))))
 have H47 := H33.pk []
 obtain rfl : _ = 40 := hr.symm.trans (et (bnd_of hr30) (ifF h34))
 exact ⟨rfl, H47⟩
def wire_allOpsx_L0 : List OpD → Unit ⊕ Bool
  | [] => Sum.inl ()
  | x33 :: q22 => bnd (wire_checkWrite x33) fun yr46 => if yr46 = 0 then wire_allOpsx_L0 q22 else Sum.inr (false)
def wire_allOpsx (l0 : List OpD) : Bool :=
 lp (wire_allOpsx_L0 l0) fun _ => true
set_option maxRecDepth 100000 in
theorem wire_allOpsx_ok (w : World) (D : Nat → Prop) (A0 : Option Addr) (n0 c0 : Nat) (l0 : List OpD) (r0 : Bool) (H : Own w D w []) (hx0 : Ro w D fun w' => Rds w' 6 A0 n0 (List.flatMap OpD.cells l0)) (hn0 : n0 = l0.length) (hl0 : l0.length ≤ 9223372036854775807) (hr : wire_allOpsx l0 = r0) :
    Calls Tryz.prog 119 #[.slice A0 n0 c0, .func (.func 121) #[] #[]] w (Ret fun v w' => v = .bool r0 ∧ Own w D w' []) := by
 subst hn0
 refine Calls.body (args := [.slice A0 l0.length c0, .func (.func 121) #[] #[]]) Tryz.func119 rfl rfl rfl ?_
 show Wp _ _ _ [(0, .slice A0 l0.length c0), (1, .func (.func 121) #[] #[])] _ _
 refine sr (An rfl (Wp.seq (sr (Mz rfl (Kz (.int .i64 ((l0.length : Nat) : Int)) (Mn rfl (bo ?_)))))))
 have H23 : Own w D w [] := H.pk []
 obtain ⟨I27, hI28⟩ : ∃ q : Nat → World → Prop, q = fun (i : Nat) w' => Own w D w' [] ∧ (i ≤ l0.length ∧ wire_allOpsx_L0 l0 = wire_allOpsx_L0 (List.drop i l0)) := ⟨_, rfl⟩
 have dm29 : ∀ {k21 : Nat} {w' : World}, I27 k21 w' ↔ Own w D w' [] ∧ k21 ≤ l0.length ∧ wire_allOpsx_L0 l0 = wire_allOpsx_L0 (List.drop k21 l0) := by intros; subst hI28; exact Iff.rfl
 refine Wp.loop (fun i : Nat => [(4, .bool false), (9, .int .i64 ((i : Nat) : Int)), (8, .int .i64 ((l0.length : Nat) : Int)), (7, .slice A0 l0.length c0), (1, .func (.func 121) #[] #[])]) I27 (fun i => l0.length - i) 0 ⟨rfl, rfl, rfl, rfl, rfl, trivial⟩ (dm29.2 ⟨H23, by omega, rfl⟩) ?_
 rintro k21 w24 hf26
 show Wp _ _ _ [(4, .bool false), (9, .int .i64 ((k21 : Nat) : Int)), (8, .int .i64 ((l0.length : Nat) : Int)), (7, .slice A0 l0.length c0), (1, .func (.func 121) #[] #[])] _ _
 obtain ⟨H25, hi31, hq30⟩ := dm29.1 hf26
 refine sr (Kz (.bool (decide (((k21 : Nat) : Int) < ((l0.length : Nat) : Int)))) (nt (Wp.seq ?_)))
 by_cases h32 : ((k21 : Nat) : Int) < ((l0.length : Nat) : Int)
 obtain ⟨x33, hx34⟩ := rds_at (ls := l0) (i := k21) OpD.len (by decide) (H25.ro hx0) (by first | omega | (simp; done) | (simp; omega))
 have hd35 := drop_at hx34
 refine jT (dT h32) (sk (Wp.seq (bo (sr (fw (.pointer (some ⟨ab A0, ao A0 + k21 * 6, none⟩)) (Yl.indexAddr (El25) rfl rfl ((H25.ro hx0).addr (i := k21) (by omega)) (by omega)) (fw (.agg (OpD.cells x33).toArray) (Yl.load rfl (Lds.agg (cs := (OpD.cells x33)) Tryz.isAgg64 Tryz.sizeOf64 ((H25.ro hx0).elem OpD.len hx34 (by decide)))) ?_))))))
 refine npw [.int .i64 0, .string ⟨List.toArray ([])⟩, .string ⟨List.toArray ([])⟩, .string ⟨List.toArray ([])⟩, .string ⟨List.toArray ([])⟩, .int .i64 0] 64 H25 ?_
 intro g36 w37 H38
 refine sto (OpD.cells x33) 0 H38 Tryz.sizeOf64 ?_
 intro w39 H40
 refine ns (Mz rfl (La (OpD.cells x33) H40 0 Tryz.isAgg64 Tryz.sizeOf64 ?_))
 obtain ⟨r46, hr47⟩ : ∃ q, wire_checkWrite x33 = q := ⟨_, rfl⟩
 obtain ⟨D41, HP42, ro43, bk44, rr45⟩ := Own.enter0 H40
 refine WL.do rfl (Do.callV Tryz.call121 rfl rfl (wire_checkWrite_ok _ _ x33 r46 HP42 hr47) ?_)
 rintro _ w48 ⟨rfl, HQ49⟩
 have H50 := bk44 _ _ HQ49
 refine fw (.bool (decide (¬ (r46 = 0)))) (Yl.bool (e := !(decide (r46 = 0))) yk decide_not.symm) (nt ?_)
 by_cases h51 : r46 = 0
 refine jF (dF (not_not_intro h51)) (Wp.skip (bN (Fin.then (Wp.region (fw (.int .i64 ((k21 + 1 : Nat) : Int)) (Yl.int (e := IntKind.i64.wrap (((k21 : Nat) : Int) + 1)) yk (by rw [IntWalk.i64_in _ (by omega)]; omega)) (Mz rfl (WL.nil ?_)))))))
 have H52 := H50.pk []
 exact Fin.round (k21 + 1) ⟨rfl, rfl, rfl, rfl, rfl, trivial⟩ (dm29.2 ⟨H52, by omega, et (hq30) (et (congrArg (fun q => wire_allOpsx_L0 q) hd35) (et (bnd_of hr47) (ip h51)))⟩) (by show l0.length - (k21 + 1) < l0.length - k21; omega)
 refine jT (dT h51) (sr (An rfl (rt (bR (tR (tR (bR (tR (rs ?_)))))))))
 have H53 := H50.pk []
 obtain rfl : _ = false := hr.symm.trans (lp_r (et (hq30) (et (congrArg (fun q => wire_allOpsx_L0 q) hd35) (et (bnd_of hr47) (iN h51)))))
 exact ⟨rfl, H53⟩
 refine jF (dF h32) (Wp.exit (Fin.thenX ?_))
 have hL54 : wire_allOpsx_L0 l0 = Sum.inl () := et (hq30) (et (congrArg (fun q => wire_allOpsx_L0 q) (drop_end (ls := l0) (i := k21) (by omega))) rfl)
 refine Fin.thenX (Fin.blockX (Fin.then (sr (An rfl (rt (rs ?_))))))
 have H55 := H25.pk []
 obtain rfl : _ = true := hr.symm.trans (lp_l hL54)
 exact ⟨rfl, H55⟩
def wire_mayOps (p0 : Int) (l1 : List OpD) : Bool :=
 if p0 = 1 then bnd (op_Check l1) fun yr27 => decide (yr27 = 0) else if p0 = 3 then if ((l1.length : Nat) : Int) ≥ 1 then if ((l1.length : Nat) : Int) ≤ 24 then bnd (wire_allOps l1) fun yr41 => yr41 else false else false else if ((l1.length : Nat) : Int) ≤ 6 then bnd (wire_allOpsx l1) fun yr55 => yr55 else false
set_option maxRecDepth 100000 in
theorem wire_mayOps_ok (w : World) (D : Nat → Prop) (p0 : Int) (A1 : Option Addr) (n1 c1 : Nat) (l1 : List OpD) (r0 : Bool) (H : Own w D w []) (hx1 : Ro w D fun w' => Rds w' 6 A1 n1 (List.flatMap OpD.cells l1)) (hn1 : n1 = l1.length) (hl1 : l1.length ≤ 9223372036854775807) (hr : wire_mayOps p0 l1 = r0) :
    Calls Tryz.prog 105 #[.int .i64 p0, .slice A1 n1 c1] w (Ret fun v w' => v = .bool r0 ∧ Own w D w' []) := by
 subst hn1
 refine Calls.body (args := [.int .i64 p0, .slice A1 l1.length c1]) Tryz.func105 rfl rfl rfl ?_
 show Wp _ _ _ [(0, .int .i64 p0), (1, .slice A1 l1.length c1)] _ _
 refine sr (An rfl (Wp.seq (sr (Mn rfl (bo (sr (Kz (.bool (decide (p0 = 1))) (An rfl ?_))))))))
 by_cases h21 : p0 = 1
 refine jT (dT h21) (sr (Mz rfl ?_))
 obtain ⟨r27, hr28⟩ : ∃ q, op_Check l1 = q := ⟨_, rfl⟩
 obtain ⟨D22, HP23, ro24, bk25, rr26⟩ := Own.enter0 H
 refine cl Tryz.call118 (op_Check_ok _ _ A1 l1.length c1 l1 r27 HP23 (ro24 _ hx1) rfl (by omega) hr28) ?_
 rintro _ w29 ⟨rfl, HQ30⟩
 have H31 := bk25 _ _ HQ30
 refine Kz (.bool (decide (r27 = 0))) (An rfl (rt (bR (tR (rs ?_)))))
 have H32 := H31.pk []
 obtain rfl : _ = decide (r27 = 0) := hr.symm.trans (et (ip h21) (bnd_of hr28))
 exact ⟨rfl, H32⟩
 refine jF (dF h21) (sr (Kz (.bool (decide (p0 = 3))) (An rfl ?_)))
 by_cases h33 : p0 = 3
 refine jT (dT h33) (sr (Mz rfl (Kz (.int .i64 ((l1.length : Nat) : Int)) (Kz (.bool (decide (((l1.length : Nat) : Int) ≥ 1))) (Mz rfl ?_)))))
 by_cases h34 : ((l1.length : Nat) : Int) ≥ 1
 refine gw (.slice A1 l1.length c1) (dT h34) (Yl.move rfl) (Gz (.int .i64 ((l1.length : Nat) : Int)) (dT h34) (Gz (.bool (decide (((l1.length : Nat) : Int) ≤ 24))) (dT h34) (fw (.bool (decide (((l1.length : Nat) : Int) ≤ 24))) (Yl.pickT rfl (dT h34) rfl) (Mz rfl ?_))))
 by_cases h35 : ((l1.length : Nat) : Int) ≤ 24
 refine gw (.slice A1 l1.length c1) (dT h35) (Yl.move rfl) ?_
 obtain ⟨r41, hr42⟩ : ∃ q, wire_allOps l1 = q := ⟨_, rfl⟩
 obtain ⟨D36, HP37, ro38, bk39, rr40⟩ := Own.enter0 H
 refine clG (dT h35) Tryz.call119 (wire_allOps_ok _ _ A1 l1.length c1 l1 r41 HP37 (ro38 _ hx1) rfl (by omega) hr42) ?_
 rintro _ w43 ⟨rfl, HQ44⟩
 have H45 := bk39 _ _ HQ44
 refine fw (.bool r41) (Yl.pickT rfl (dT h35) rfl) (An rfl (rt (bR (tR (rs ?_)))))
 have H46 := H45.pk []
 obtain rfl : _ = r41 := hr.symm.trans (et (iN h21) (et (ip h33) (et (ip h34) (et (ip h35) (bnd_of hr42)))))
 exact ⟨rfl, H46⟩
 refine Sz (dF h35) (Sz (dF h35) (fw (.bool false) (Yl.pickF rfl (dF h35) rfl) (An rfl (rt (bR (tR (rs ?_)))))))
 have H47 : Own w D w [] := H.pk []
 obtain rfl : _ = false := hr.symm.trans (et (iN h21) (et (ip h33) (et (ip h34) (iN h35))))
 exact ⟨rfl, H47⟩
 refine Sz (dF h34) (Sz (dF h34) (Sz (dF h34) (fw (.bool false) (Yl.pickF rfl (dF h34) rfl) (Mz rfl (Sz rfl (Sz rfl (fw (.bool false) (Yl.pickF rfl rfl rfl) (An rfl (rt (bR (tR (rs ?_))))))))))))
 have H48 : Own w D w [] := H.pk []
 obtain rfl : _ = false := hr.symm.trans (et (iN h21) (et (ip h33) (iN h34)))
 exact ⟨rfl, H48⟩
 refine jF (dF h33) (Wp.skip (bN (Fin.then (sr (Mz rfl (Kz (.int .i64 ((l1.length : Nat) : Int)) (Kz (.bool (decide (((l1.length : Nat) : Int) ≤ 6))) (Mz rfl ?_))))))))
 by_cases h49 : ((l1.length : Nat) : Int) ≤ 6
 refine gw (.slice A1 l1.length c1) (dT h49) (Yl.move rfl) ?_
 obtain ⟨r55, hr56⟩ : ∃ q, wire_allOpsx l1 = q := ⟨_, rfl⟩
 obtain ⟨D50, HP51, ro52, bk53, rr54⟩ := Own.enter0 H
 refine clG (dT h49) Tryz.call119 (wire_allOpsx_ok _ _ A1 l1.length c1 l1 r55 HP51 (ro52 _ hx1) rfl (by omega) hr56) ?_
 rintro _ w57 ⟨rfl, HQ58⟩
 have H59 := bk53 _ _ HQ58
 refine fw (.bool r55) (Yl.pickT rfl (dT h49) rfl) (An rfl (rt (rs ?_)))
 have H60 := H59.pk []
 obtain rfl : _ = r55 := hr.symm.trans (et (iN h21) (et (iN h33) (et (ip h49) (bnd_of hr56))))
 exact ⟨rfl, H60⟩
 refine Sz (dF h49) (Sz (dF h49) (fw (.bool false) (Yl.pickF rfl (dF h49) rfl) (An rfl (rt (rs ?_)))))
 have H61 : Own w D w [] := H.pk []
 obtain rfl : _ = false := hr.symm.trans (et (iN h21) (et (iN h33) (iN h49)))
 exact ⟨rfl, H61⟩
theorem El27 : Elem Tryz.prog 27 88 2 24 := elem_of (z := .agg #[.string ⟨List.toArray ([])⟩, .int .i64 0]) Tryz.underlying27 (by kernel_rfl) rfl (by decide)
structure OwnerD where
 xLo : List UInt8
 xShard : Int
def OwnerD.cells (x : OwnerD) : List Value := [.string ⟨List.toArray x.xLo⟩, .int .i64 x.xShard]
instance : Bk OwnerD := ⟨fun x _ => bk x.xLo + (bk x.xShard + (0))⟩
theorem OwnerD.len : ∀ x, (OwnerD.cells x).length = 2 := fun _ => rfl
theorem OwnerD.one : ∀ x, ∀ u ∈ OwnerD.cells x, u.oneCell' = true := fun x u hu => by
 simp only [OwnerD.cells, List.mem_cons, List.not_mem_nil, or_false] at hu
 rcases hu with rfl | rfl <;> rfl
def OwnerD.Ok (w : World) (x : OwnerD) : Prop := (x.xLo.length ≤ 140737488351232) ∧ ((-9223372036854775808) ≤ x.xShard ∧ x.xShard ≤ 9223372036854775807)
set_option maxRecDepth 100000 in
theorem opens_OwnerD (w : World) : Opens Tryz.prog w 88 2 OwnerD.cells (OwnerD.Ok w) :=
 (opens_struct (sz := 2) Tryz.underlying88 (by kernel_rfl) (OpensF.cons (i := 0) (off := 0) (s := 1) rfl rfl (opens_string Tryz.underlying9 (by kernel_rfl)) (OpensF.cons (i := 1) (off := 1) (s := 1) rfl rfl (opens_int (k := .i64) (lo := -9223372036854775808) (hi := 9223372036854775807) Tryz.underlying3 (by kernel_rfl) (by decide) (by decide)) OpensF.nil))).map (fun p => ⟨p.1, p.2.1⟩) OwnerD.len (fun _ => rfl) (fun _ h => ⟨h.1, h.2.1⟩) fun _ => Nat.le_refl _
instance : Inhabited OwnerD := ⟨⟨default, default⟩⟩
structure MsgD where
 xKind : Int
 xFrom : Int
 xTo : Int
 xClient : Int
 xCode : Int
 xPeer : Int
 xReq : Nat
 xBoot : Nat
 xTxn : Nat
 xLow : Nat
 xVer : Nat
 xEpoch : Nat
 xMove : Nat
 xAttempt : Nat
 xN : Nat
 xFlag : Bool
 xRange : RangeD
 xOps : Sv OpD
 xResults : Sv ResultD
 xOwners : Sv OwnerD
def MsgD.cells (x : MsgD) : List Value := [.int .i64 x.xKind, .int .i64 x.xFrom, .int .i64 x.xTo, .int .i64 x.xClient, .int .i64 x.xCode, .int .i64 x.xPeer, .int .u64 ((x.xReq : Nat) : Int), .int .u64 ((x.xBoot : Nat) : Int), .int .u64 ((x.xTxn : Nat) : Int), .int .u64 ((x.xLow : Nat) : Int), .int .u64 ((x.xVer : Nat) : Int), .int .u64 ((x.xEpoch : Nat) : Int), .int .u64 ((x.xMove : Nat) : Int), .int .u64 ((x.xAttempt : Nat) : Int), .int .u64 ((x.xN : Nat) : Int), .bool x.xFlag, .string ⟨List.toArray x.xRange.xLo⟩, .string ⟨List.toArray x.xRange.xHi⟩, .slice x.xOps.A x.xOps.ls.length x.xOps.c, .slice x.xResults.A x.xResults.ls.length x.xResults.c, .slice x.xOwners.A x.xOwners.ls.length x.xOwners.c]
instance : Bk MsgD := ⟨fun x _ => bk x.xKind + (bk x.xFrom + (bk x.xTo + (bk x.xClient + (bk x.xCode + (bk x.xPeer + (bk x.xReq + (bk x.xBoot + (bk x.xTxn + (bk x.xLow + (bk x.xVer + (bk x.xEpoch + (bk x.xMove + (bk x.xAttempt + (bk x.xN + (bk x.xFlag + (bk x.xRange + (bk x.xOps + (bk x.xResults + (bk x.xOwners + (0))))))))))))))))))))⟩
theorem MsgD.len : ∀ x, (MsgD.cells x).length = 21 := fun _ => rfl
theorem MsgD.one : ∀ x, ∀ u ∈ MsgD.cells x, u.oneCell' = true := fun x u hu => by
 simp only [MsgD.cells, List.mem_cons, List.not_mem_nil, or_false] at hu
 rcases hu with rfl | rfl | rfl | rfl | rfl | rfl | rfl | rfl | rfl | rfl | rfl | rfl | rfl | rfl | rfl | rfl | rfl | rfl | rfl | rfl | rfl <;> rfl
def MsgD.Ok (w : World) (x : MsgD) : Prop := ((-9223372036854775808) ≤ x.xKind ∧ x.xKind ≤ 9223372036854775807) ∧ ((-9223372036854775808) ≤ x.xFrom ∧ x.xFrom ≤ 9223372036854775807) ∧ ((-9223372036854775808) ≤ x.xTo ∧ x.xTo ≤ 9223372036854775807) ∧ ((-9223372036854775808) ≤ x.xClient ∧ x.xClient ≤ 9223372036854775807) ∧ ((-9223372036854775808) ≤ x.xCode ∧ x.xCode ≤ 9223372036854775807) ∧ ((-9223372036854775808) ≤ x.xPeer ∧ x.xPeer ≤ 9223372036854775807) ∧ (x.xReq ≤ 18446744073709551615) ∧ (x.xBoot ≤ 18446744073709551615) ∧ (x.xTxn ≤ 18446744073709551615) ∧ (x.xLow ≤ 18446744073709551615) ∧ (x.xVer ≤ 18446744073709551615) ∧ (x.xEpoch ≤ 18446744073709551615) ∧ (x.xMove ≤ 18446744073709551615) ∧ (x.xAttempt ≤ 18446744073709551615) ∧ (x.xN ≤ 18446744073709551615) ∧ (True) ∧ (RangeD.Ok w x.xRange) ∧ (SvOk w 6 80 OpD.cells (OpD.Ok w) x.xOps) ∧ (SvOk w 3 48 ResultD.cells (ResultD.Ok w) x.xResults) ∧ (SvOk w 2 24 OwnerD.cells (OwnerD.Ok w) x.xOwners)
set_option maxRecDepth 100000 in
theorem opens_MsgD (w : World) : Opens Tryz.prog w 29 21 MsgD.cells (MsgD.Ok w) :=
 (opens_struct (sz := 21) Tryz.underlying29 (by kernel_rfl) (OpensF.cons (i := 0) (off := 0) (s := 1) rfl rfl (opens_int (k := .i64) (lo := -9223372036854775808) (hi := 9223372036854775807) Tryz.underlying3 (by kernel_rfl) (by decide) (by decide)) (OpensF.cons (i := 1) (off := 1) (s := 1) rfl rfl (opens_int (k := .i64) (lo := -9223372036854775808) (hi := 9223372036854775807) Tryz.underlying3 (by kernel_rfl) (by decide) (by decide)) (OpensF.cons (i := 2) (off := 2) (s := 1) rfl rfl (opens_int (k := .i64) (lo := -9223372036854775808) (hi := 9223372036854775807) Tryz.underlying3 (by kernel_rfl) (by decide) (by decide)) (OpensF.cons (i := 3) (off := 3) (s := 1) rfl rfl (opens_int (k := .i64) (lo := -9223372036854775808) (hi := 9223372036854775807) Tryz.underlying3 (by kernel_rfl) (by decide) (by decide)) (OpensF.cons (i := 4) (off := 4) (s := 1) rfl rfl (opens_int (k := .i64) (lo := -9223372036854775808) (hi := 9223372036854775807) Tryz.underlying3 (by kernel_rfl) (by decide) (by decide)) (OpensF.cons (i := 5) (off := 5) (s := 1) rfl rfl (opens_int (k := .i64) (lo := -9223372036854775808) (hi := 9223372036854775807) Tryz.underlying3 (by kernel_rfl) (by decide) (by decide)) (OpensF.cons (i := 6) (off := 6) (s := 1) rfl rfl (opens_nat (k := .u64) (hi := 18446744073709551615) Tryz.underlying22 (by kernel_rfl) (by decide) (by decide)) (OpensF.cons (i := 7) (off := 7) (s := 1) rfl rfl (opens_nat (k := .u64) (hi := 18446744073709551615) Tryz.underlying22 (by kernel_rfl) (by decide) (by decide)) (OpensF.cons (i := 8) (off := 8) (s := 1) rfl rfl (opens_nat (k := .u64) (hi := 18446744073709551615) Tryz.underlying22 (by kernel_rfl) (by decide) (by decide)) (OpensF.cons (i := 9) (off := 9) (s := 1) rfl rfl (opens_nat (k := .u64) (hi := 18446744073709551615) Tryz.underlying22 (by kernel_rfl) (by decide) (by decide)) (OpensF.cons (i := 10) (off := 10) (s := 1) rfl rfl (opens_nat (k := .u64) (hi := 18446744073709551615) Tryz.underlying22 (by kernel_rfl) (by decide) (by decide)) (OpensF.cons (i := 11) (off := 11) (s := 1) rfl rfl (opens_nat (k := .u64) (hi := 18446744073709551615) Tryz.underlying22 (by kernel_rfl) (by decide) (by decide)) (OpensF.cons (i := 12) (off := 12) (s := 1) rfl rfl (opens_nat (k := .u64) (hi := 18446744073709551615) Tryz.underlying22 (by kernel_rfl) (by decide) (by decide)) (OpensF.cons (i := 13) (off := 13) (s := 1) rfl rfl (opens_nat (k := .u64) (hi := 18446744073709551615) Tryz.underlying22 (by kernel_rfl) (by decide) (by decide)) (OpensF.cons (i := 14) (off := 14) (s := 1) rfl rfl (opens_nat (k := .u64) (hi := 18446744073709551615) Tryz.underlying22 (by kernel_rfl) (by decide) (by decide)) (OpensF.cons (i := 15) (off := 15) (s := 1) rfl rfl (opens_bool Tryz.underlying4 (by kernel_rfl)) (OpensF.cons (i := 16) (off := 16) (s := 2) rfl rfl (opens_RangeD w) (OpensF.cons (i := 17) (off := 18) (s := 1) rfl rfl (opens_slice (bytes := 80) Tryz.underlying25 (by kernel_rfl) (by kernel_rfl) (by decide) (opens_OpD w)) (OpensF.cons (i := 18) (off := 19) (s := 1) rfl rfl (opens_slice (bytes := 48) Tryz.underlying26 (by kernel_rfl) (by kernel_rfl) (by decide) (opens_ResultD w)) (OpensF.cons (i := 19) (off := 20) (s := 1) rfl rfl (opens_slice (bytes := 24) Tryz.underlying27 (by kernel_rfl) (by kernel_rfl) (by decide) (opens_OwnerD w)) OpensF.nil))))))))))))))))))))).map (fun p => ⟨p.1, p.2.1, p.2.2.1, p.2.2.2.1, p.2.2.2.2.1, p.2.2.2.2.2.1, p.2.2.2.2.2.2.1, p.2.2.2.2.2.2.2.1, p.2.2.2.2.2.2.2.2.1, p.2.2.2.2.2.2.2.2.2.1, p.2.2.2.2.2.2.2.2.2.2.1, p.2.2.2.2.2.2.2.2.2.2.2.1, p.2.2.2.2.2.2.2.2.2.2.2.2.1, p.2.2.2.2.2.2.2.2.2.2.2.2.2.1, p.2.2.2.2.2.2.2.2.2.2.2.2.2.2.1, p.2.2.2.2.2.2.2.2.2.2.2.2.2.2.2.1, p.2.2.2.2.2.2.2.2.2.2.2.2.2.2.2.2.1, p.2.2.2.2.2.2.2.2.2.2.2.2.2.2.2.2.2.1, p.2.2.2.2.2.2.2.2.2.2.2.2.2.2.2.2.2.2.1, p.2.2.2.2.2.2.2.2.2.2.2.2.2.2.2.2.2.2.2.1⟩) MsgD.len (fun _ => rfl) (fun _ h => ⟨h.1, h.2.1, h.2.2.1, h.2.2.2.1, h.2.2.2.2.1, h.2.2.2.2.2.1, h.2.2.2.2.2.2.1, h.2.2.2.2.2.2.2.1, h.2.2.2.2.2.2.2.2.1, h.2.2.2.2.2.2.2.2.2.1, h.2.2.2.2.2.2.2.2.2.2.1, h.2.2.2.2.2.2.2.2.2.2.2.1, h.2.2.2.2.2.2.2.2.2.2.2.2.1, h.2.2.2.2.2.2.2.2.2.2.2.2.2.1, h.2.2.2.2.2.2.2.2.2.2.2.2.2.2.1, h.2.2.2.2.2.2.2.2.2.2.2.2.2.2.2.1, h.2.2.2.2.2.2.2.2.2.2.2.2.2.2.2.2.1, h.2.2.2.2.2.2.2.2.2.2.2.2.2.2.2.2.2.1, h.2.2.2.2.2.2.2.2.2.2.2.2.2.2.2.2.2.2.1, h.2.2.2.2.2.2.2.2.2.2.2.2.2.2.2.2.2.2.2.1⟩) fun _ => Nat.le_refl _
instance : Inhabited MsgD := ⟨⟨default, default, default, default, default, default, default, default, default, default, default, default, default, default, default, default, default, default, default, default⟩⟩
structure MsgT where
 xKind : Int
 xFrom : Int
 xTo : Int
 xClient : Int
 xCode : Int
 xPeer : Int
 xReq : Nat
 xBoot : Nat
 xTxn : Nat
 xLow : Nat
 xVer : Nat
 xEpoch : Nat
 xMove : Nat
 xAttempt : Nat
 xN : Nat
 xFlag : Bool
 xRange : RangeD
 xOps : Ll OpD
 xResults : Ll ResultT
 xOwners : Ll OwnerD
instance : Inhabited MsgT := ⟨⟨default, default, default, default, default, default, default, default, default, default, default, default, default, default, default, default, default, default, default, default⟩⟩
def MsgD.abs (x : MsgD) : MsgT := ⟨x.xKind, x.xFrom, x.xTo, x.xClient, x.xCode, x.xPeer, x.xReq, x.xBoot, x.xTxn, x.xLow, x.xVer, x.xEpoch, x.xMove, x.xAttempt, x.xN, x.xFlag, x.xRange, ⟨x.xOps.ls⟩, ⟨List.map ResultD.abs x.xResults.ls⟩, ⟨x.xOwners.ls⟩⟩
def MsgD.own (x : MsgD) : List HP := [row x.xOps.A x.xOps.ls.length x.xOps.c (List.flatMap OpD.cells x.xOps.ls) 64 6, row x.xResults.A x.xResults.ls.length x.xResults.c (List.flatMap ResultD.cells x.xResults.ls) 84 3, row x.xOwners.A x.xOwners.ls.length x.xOwners.c (List.flatMap OwnerD.cells x.xOwners.ls) 88 2, sepL (List.flatMap ResultD.own x.xResults.ls)]
abbrev MsgC (a0 : Int) (a1 : Int) (a2 : Int) (a3 : Int) (a4 : Int) (a5 : Int) (a6 : Nat) (a7 : Nat) (a8 : Nat) (a9 : Nat) (a10 : Nat) (a11 : Nat) (a12 : Nat) (a13 : Nat) (a14 : Nat) (a15 : Bool) (a16 : List UInt8) (a17 : List UInt8) (a18 : Option Addr) (na18 ca18 : Nat) (a19 : Option Addr) (na19 ca19 : Nat) (a20 : Option Addr) (na20 ca20 : Nat) : List Value := [.int .i64 a0, .int .i64 a1, .int .i64 a2, .int .i64 a3, .int .i64 a4, .int .i64 a5, .int .u64 ((a6 : Nat) : Int), .int .u64 ((a7 : Nat) : Int), .int .u64 ((a8 : Nat) : Int), .int .u64 ((a9 : Nat) : Int), .int .u64 ((a10 : Nat) : Int), .int .u64 ((a11 : Nat) : Int), .int .u64 ((a12 : Nat) : Int), .int .u64 ((a13 : Nat) : Int), .int .u64 ((a14 : Nat) : Int), .bool a15, .string ⟨List.toArray a16⟩, .string ⟨List.toArray a17⟩, .slice a18 na18 ca18, .slice a19 na19 ca19, .slice a20 na20 ca20]
abbrev MsgP (x : MsgT) (A0 : Option Addr) (c0 : Nat) (A1 : Option Addr) (c1 : Nat) (A2 : Option Addr) (c2 : Nat) : List Value := [.int .i64 x.xKind, .int .i64 x.xFrom, .int .i64 x.xTo, .int .i64 x.xClient, .int .i64 x.xCode, .int .i64 x.xPeer, .int .u64 ((x.xReq : Nat) : Int), .int .u64 ((x.xBoot : Nat) : Int), .int .u64 ((x.xTxn : Nat) : Int), .int .u64 ((x.xLow : Nat) : Int), .int .u64 ((x.xVer : Nat) : Int), .int .u64 ((x.xEpoch : Nat) : Int), .int .u64 ((x.xMove : Nat) : Int), .int .u64 ((x.xAttempt : Nat) : Int), .int .u64 ((x.xN : Nat) : Int), .bool x.xFlag, .string ⟨List.toArray x.xRange.xLo⟩, .string ⟨List.toArray x.xRange.xHi⟩, .slice A0 x.xOps.ls.length c0, .slice A1 x.xResults.ls.length c1, .slice A2 x.xOwners.ls.length c2]
def owner_isShard (p0 : Int) : Bool :=
 if p0 ≥ 1 then decide (p0 ≤ 4) else false
set_option maxRecDepth 100000 in
theorem owner_isShard_ok (w : World) (D : Nat → Prop) (p0 : Int) (r0 : Bool) (H : Own w D w [])  (hr : owner_isShard p0 = r0) :
    Calls Tryz.prog 122 #[.int .i64 p0] w (Ret fun v w' => v = .bool r0 ∧ Own w D w' []) := by
 refine Calls.body (args := [.int .i64 p0]) Tryz.func122 rfl rfl rfl ?_
 show Wp _ _ _ [(0, .int .i64 p0)] _ _
 refine sr (Ar rfl (Mz rfl (Kz (.bool (decide (p0 ≥ 1))) (Mz rfl ?_))))
 by_cases h21 : p0 ≥ 1
 refine gw (.int .i64 p0) (dT h21) (Yl.move rfl) (Gz (.bool (decide (p0 ≤ 4))) (dT h21) (fw (.bool (decide (p0 ≤ 4))) (Yl.pickT rfl (dT h21) rfl) (An rfl (rt (rs ?_)))))
 have H22 : Own w D w [] := H.pk []
 obtain rfl : _ = decide (p0 ≤ 4) := hr.symm.trans (ip h21)
 exact ⟨rfl, H22⟩
 refine Sz (dF h21) (Sz (dF h21) (fw (.bool false) (Yl.pickF rfl (dF h21) rfl) (An rfl (rt (rs ?_)))))
 have H23 : Own w D w [] := H.pk []
 obtain rfl : _ = false := hr.symm.trans (iN h21)
 exact ⟨rfl, H23⟩
def owner_Check_L0 (l0 : List OwnerD) : List OwnerD → Nat → Unit ⊕ Int
  | [], k29 => Sum.inl ()
  | x41 :: q30, k29 => bnd (owner_isShard x41.xShard) fun yr49 => if yr49 = true then if ((k29 : Nat) : Int) > 0 then bnd (span_CheckKey x41.xLo) fun yr63 => if yr63 = 0 then bnd (List.getD l0 (k29 - 1) default) fun yx70 => if x41.xLo ≤ yx70.xLo then Sum.inr (170) else owner_Check_L0 l0 q30 (k29 + 1) else Sum.inr (170) else owner_Check_L0 l0 q30 (k29 + 1) else Sum.inr (170)
def owner_Check (l0 : List OwnerD) : Int :=
 if ((l0.length : Nat) : Int) < 1 then 170 else if ((l0.length : Nat) : Int) > 6 then 170 else bnd (List.getD l0 0 default) fun yx25 => if yx25.xLo ≠ ([]) then 170 else lp (owner_Check_L0 l0 l0 0) fun _ => 0
set_option maxRecDepth 100000 in
theorem owner_Check_ok (w : World) (D : Nat → Prop) (A0 : Option Addr) (n0 c0 : Nat) (l0 : List OwnerD) (r0 : Int) (H : Own w D w []) (hx0 : Ro w D fun w' => Rds w' 2 A0 n0 (List.flatMap OwnerD.cells l0)) (hn0 : n0 = l0.length) (hl0 : l0.length ≤ 9223372036854775807) (hr : owner_Check l0 = r0) :
    Calls Tryz.prog 106 #[.slice A0 n0 c0] w (Ret fun v w' => v = .int .i64 r0 ∧ Own w D w' []) := by
 subst hn0
 refine Calls.body (args := [.slice A0 l0.length c0]) Tryz.func106 rfl rfl rfl ?_
 show Wp _ _ _ [(0, .slice A0 l0.length c0)] _ _
 refine sr (An rfl (Wp.seq (sr (Mz rfl (Kz (.int .i64 ((l0.length : Nat) : Int)) (Kz (.bool (decide (((l0.length : Nat) : Int) < 1))) (Mz rfl ?_)))))))
 by_cases h21 : ((l0.length : Nat) : Int) < 1
 refine Sz (dT h21) (Sz (dT h21) (Sz (dT h21) (fw (.bool true) (Yl.pickT rfl (dT h21) rfl) (Mz rfl (Sz rfl (Sz rfl (Sz rfl (Sz rfl (Sz rfl (fw (.bool true) (Yl.pickT rfl rfl rfl) (nt (jt (sr (An rfl (rt (tR (rs ?_)))))))))))))))))
 have H22 : Own w D w [] := H.pk []
 obtain rfl : _ = 170 := hr.symm.trans (ip h21)
 exact ⟨rfl, H22⟩
 refine gw (.slice A0 l0.length c0) (dF h21) (Yl.move rfl) (Gz (.int .i64 ((l0.length : Nat) : Int)) (dF h21) (Gz (.bool (decide (((l0.length : Nat) : Int) > 6))) (dF h21) (fw (.bool (decide (((l0.length : Nat) : Int) > 6))) (Yl.pickF rfl (dF h21) rfl) (Mz rfl ?_))))
 by_cases h23 : ((l0.length : Nat) : Int) > 6
 refine Sz (dT h23) (Sz (dT h23) (Sz (dT h23) (Sz (dT h23) (Sz (dT h23) (fw (.bool true) (Yl.pickT rfl (dT h23) rfl) (nt (jt (sr (An rfl (rt (tR (rs ?_))))))))))))
 have H24 : Own w D w [] := H.pk []
 obtain rfl : _ = 170 := hr.symm.trans (et (iN h21) (ip h23))
 exact ⟨rfl, H24⟩
 refine gw (.slice A0 l0.length c0) (dF h23) (Yl.move rfl) ?_
 obtain ⟨x25, hx26⟩ := rds_at (ls := l0) (i := 0) OwnerD.len (by decide) (H.ro hx0) (by first | omega | (simp; done) | (simp; omega))
 refine gw (.pointer (some ⟨ab A0, ao A0 + 0 * 2, none⟩)) (dF h23) (Yl.indexAddr (El27) rfl rfl ((H.ro hx0).addr (i := 0) (by omega)) (by omega)) (Gz (.pointer (some ⟨ab A0, ao A0 + 0 * 2, none⟩)) (dF h23) (gw (.string ⟨List.toArray x25.xLo⟩) (dF h23) (Yl.load rfl (Lds.one Tryz.isAgg9 (((H.ro hx0).elem OwnerD.len hx26 (by decide)).at_ (k := 0) rfl))) (gw (.bool (decide (x25.xLo ≠ ([])))) (dF h23) (Yl.strNe rfl rfl) (fw (.bool (decide (x25.xLo ≠ ([])))) (Yl.pickF rfl (dF h23) rfl) (nt ?_)))))
 by_cases h27 : x25.xLo ≠ ([])
 refine jT (dT h27) (sr (An rfl (rt (tR (rs ?_)))))
 have H28 : Own w D w [] := H.pk []
 obtain rfl : _ = 170 := hr.symm.trans (et (iN h21) (et (iN h23) (et (bnd_of (getD_of hx26)) (ip h27))))
 exact ⟨rfl, H28⟩
 refine jF (dF h27) (sk (Wp.seq (sr (Mz rfl (Kz (.int .i64 ((l0.length : Nat) : Int)) (Mn rfl (bo ?_)))))))
 have H31 : Own w D w [] := H.pk []
 obtain ⟨I35, hI36⟩ : ∃ q : Nat → World → Prop, q = fun (i : Nat) w' => Own w D w' [] ∧ (i ≤ l0.length ∧ owner_Check_L0 l0 l0 0 = owner_Check_L0 l0 (List.drop i l0) i) := ⟨_, rfl⟩
 have dm37 : ∀ {k29 : Nat} {w' : World}, I35 k29 w' ↔ Own w D w' [] ∧ k29 ≤ l0.length ∧ owner_Check_L0 l0 l0 0 = owner_Check_L0 l0 (List.drop k29 l0) k29 := by intros; subst hI36; exact Iff.rfl
 refine Wp.loop (fun i : Nat => [(2, .int .i64 0), (21, .int .i64 ((i : Nat) : Int)), (20, .int .i64 ((l0.length : Nat) : Int)), (0, .slice A0 l0.length c0)]) I35 (fun i => l0.length - i) 0 ⟨rfl, rfl, rfl, rfl, trivial⟩ (dm37.2 ⟨H31, by omega, rfl⟩) ?_
 rintro k29 w32 hf34
 show Wp _ _ _ [(2, .int .i64 0), (21, .int .i64 ((k29 : Nat) : Int)), (20, .int .i64 ((l0.length : Nat) : Int)), (0, .slice A0 l0.length c0)] _ _
 obtain ⟨H33, hi39, hq38⟩ := dm37.1 hf34
 refine sr (Kz (.bool (decide (((k29 : Nat) : Int) < ((l0.length : Nat) : Int)))) (nt (Wp.seq ?_)))
 by_cases h40 : ((k29 : Nat) : Int) < ((l0.length : Nat) : Int)
 obtain ⟨x41, hx42⟩ := rds_at (ls := l0) (i := k29) OwnerD.len (by decide) (H33.ro hx0) (by first | omega | (simp; done) | (simp; omega))
 have hd43 := drop_at hx42
 refine jT (dT h40) (sk (Wp.seq (bo (sr (Mz rfl (An rfl (Wp.seq (sr (Mz rfl (Mz rfl (fw (.pointer (some ⟨ab A0, ao A0 + k29 * 2, none⟩)) (Yl.indexAddr (El27) rfl rfl ((H33.ro hx0).addr (i := k29) (by omega)) (by omega)) (Kz (.pointer (some ⟨ab A0, ao A0 + k29 * 2 + 1, none⟩)) (fw (.int .i64 x41.xShard) (Yl.load rfl (Lds.one Tryz.isAgg3 (((H33.ro hx0).elem OwnerD.len hx42 (by decide)).at_ (k := 1) rfl))) ?_)))))))))))))
 obtain ⟨r49, hr50⟩ : ∃ q, owner_isShard x41.xShard = q := ⟨_, rfl⟩
 obtain ⟨D44, HP45, ro46, bk47, rr48⟩ := Own.enter0 H33
 refine cl Tryz.call122 (owner_isShard_ok _ _ x41.xShard r49 HP45 hr50) ?_
 rintro _ w51 ⟨rfl, HQ52⟩
 have H53 := bk47 _ _ HQ52
 refine Kz (.bool (!r49)) (nt ?_)
 rcases Bool.eq_false_or_eq_true (r49) with h54 | h54
 refine jF (cn h54) (sk (Wp.seq ?_))
 have H56 := H53.drew
 refine Wp.drawnX [] (fun W => ∃ L', Own w D W ([] ++ L')) (by kernel_rfl) (by kernel_rfl) (NoP.then (NoP.block (NoP.then (NoP.then (NoP.block (NoP.then NoP.base)))))) ⟨_, H56⟩ ?_
 revert H56
 generalize World.drew w51 = w55
 intro H56
 refine GX.take (v := .int .i64 ((k29 : Nat) : Int)) (rs := []) 0 rfl (by kernel_rfl) (fun _ _ => Yl.move rfl) (GX.take (v := .bool (decide (((k29 : Nat) : Int) > 0))) (rs := []) 1 rfl (by kernel_rfl) (fun _ _ => yk) (GX.take (v := .bool (decide (((k29 : Nat) : Int) > 0))) (rs := []) 2 rfl (by kernel_rfl) (fun _ _ => Yl.move rfl) ?_))
 by_cases h57 : ((k29 : Nat) : Int) > 0
 refine GX.takeG (v := .slice A0 l0.length c0) (rs := []) 3 rfl rfl rfl (dT h57) (by kernel_rfl) (fun _ _ => Yl.move rfl) (GX.takeG (v := .int .i64 ((k29 : Nat) : Int)) (rs := []) 4 rfl rfl rfl (dT h57) (by kernel_rfl) (fun _ _ => Yl.move rfl) (GX.takeG (v := .pointer (some ⟨ab A0, ao A0 + k29 * 2, none⟩)) (rs := []) 5 rfl rfl rfl (dT h57) (by kernel_rfl) (fun _ ⟨_, H9⟩ => Yl.indexAddr (El27) rfl rfl ((H9.ro hx0).addr (i := k29) (by omega)) (by omega)) (GX.takeG (v := .pointer (some ⟨ab A0, ao A0 + k29 * 2, none⟩)) (rs := []) 6 rfl rfl rfl (dT h57) (by kernel_rfl) (fun _ _ => yk) (GX.takeG (v := .string ⟨List.toArray x41.xLo⟩) (rs := []) 7 rfl rfl rfl (dT h57) (by kernel_rfl) (fun _ ⟨_, H9⟩ => Yl.load rfl (Lds.one Tryz.isAgg9 (((H9.ro hx0).elem OwnerD.len hx42 (by decide)).at_ (k := 0) rfl))) ?_))))
 obtain ⟨r63, hr64⟩ : ∃ q, span_CheckKey x41.xLo = q := ⟨_, rfl⟩
 obtain ⟨D58, HP59, ro60, bk61, rr62⟩ := Own.enter0 H56
 refine GX.doG 8 rfl rfl rfl (dT h57) (by kernel_rfl) (Do.call Tryz.call117 rfl (span_CheckKey_ok _ _ x41.xLo r63 HP59 hr64) ?_)
 rintro _ w65 ⟨rfl, HQ66, hk68⟩
 have H67 := bk61 _ _ HQ66
 replace hk68 : ¬ (r63 = 0) ∨ (1 ≤ x41.xLo.length ∧ x41.xLo.length ≤ 12) := hk68
 refine ⟨.inr ⟨_, H67⟩, ?_⟩
 refine GX.takeG (v := .bool (decide (¬ (r63 = 0)))) (rs := []) 9 rfl rfl rfl (dT h57) (by kernel_rfl) (fun _ _ => Yl.bool (e := !(decide (r63 = 0))) yk decide_not.symm) (GX.takeG (v := .bool (decide (¬ (r63 = 0)))) (rs := []) 10 rfl rfl rfl (dT h57) (by kernel_rfl) (fun _ _ => Yl.move rfl) ?_)
 by_cases h69 : r63 = 0
 refine GX.takeG (v := .slice A0 l0.length c0) (rs := []) 11 rfl rfl rfl (dF (not_not_intro h69)) (by kernel_rfl) (fun _ _ => Yl.move rfl) (GX.takeG (v := .int .i64 ((k29 : Nat) : Int)) (rs := []) 12 rfl rfl rfl (dF (not_not_intro h69)) (by kernel_rfl) (fun _ _ => Yl.move rfl) (GX.takeG (v := .pointer (some ⟨ab A0, ao A0 + k29 * 2, none⟩)) (rs := []) 13 rfl rfl rfl (dF (not_not_intro h69)) (by kernel_rfl) (fun _ ⟨_, H9⟩ => Yl.indexAddr (El27) rfl rfl ((H9.ro hx0).addr (i := k29) (by omega)) (by omega)) (GX.takeG (v := .pointer (some ⟨ab A0, ao A0 + k29 * 2, none⟩)) (rs := []) 14 rfl rfl rfl (dF (not_not_intro h69)) (by kernel_rfl) (fun _ _ => yk) (GX.takeG (v := .string ⟨List.toArray x41.xLo⟩) (rs := []) 15 rfl rfl rfl (dF (not_not_intro h69)) (by kernel_rfl) (fun _ ⟨_, H9⟩ => Yl.load rfl (Lds.one Tryz.isAgg9 (((H9.ro hx0).elem OwnerD.len hx42 (by decide)).at_ (k := 0) rfl))) (GX.takeG (v := .slice A0 l0.length c0) (rs := []) 16 rfl rfl rfl (dF (not_not_intro h69)) (by kernel_rfl) (fun _ _ => Yl.move rfl) (GX.takeG (v := .int .i64 ((k29 : Nat) : Int)) (rs := []) 17 rfl rfl rfl (dF (not_not_intro h69)) (by kernel_rfl) (fun _ _ => Yl.move rfl) (GX.takeG (v := .int .i64 ((k29 - 1 : Nat) : Int)) (rs := []) 18 rfl rfl rfl (dF (not_not_intro h69)) (by kernel_rfl) (fun _ _ => Yl.int (e := IntKind.i64.wrap (((k29 : Nat) : Int) - 1)) yk (by rw [IntWalk.i64_in _ (by omega)]; omega)) ?_)))))))
 obtain ⟨x70, hx71⟩ := at_of (ls := l0) (i := k29 - 1) (by first | omega | (simp; done) | (simp; omega))
 refine GX.takeG (v := .pointer (some ⟨ab A0, ao A0 + (k29 - 1) * 2, none⟩)) (rs := []) 19 rfl rfl rfl (dF (not_not_intro h69)) (by kernel_rfl) (fun _ ⟨_, H9⟩ => Yl.indexAddr (El27) rfl rfl ((H9.ro hx0).addr (i := k29 - 1) (by omega)) (by omega)) (GX.takeG (v := .pointer (some ⟨ab A0, ao A0 + (k29 - 1) * 2, none⟩)) (rs := []) 20 rfl rfl rfl (dF (not_not_intro h69)) (by kernel_rfl) (fun _ _ => yk) (GX.takeG (v := .string ⟨List.toArray x70.xLo⟩) (rs := []) 21 rfl rfl rfl (dF (not_not_intro h69)) (by kernel_rfl) (fun _ ⟨_, H9⟩ => Yl.load rfl (Lds.one Tryz.isAgg9 (((H9.ro hx0).elem OwnerD.len hx71 (by decide)).at_ (k := 0) rfl))) (GX.takeG (v := .bool (decide (x41.xLo ≤ x70.xLo))) (rs := []) 22 rfl rfl rfl (dF (not_not_intro h69)) (by kernel_rfl) (fun _ _ => Yl.bool (e := Op.bytesLess x41.xLo x70.xLo || decide (x41.xLo = x70.xLo)) (Yl.strLe rfl rfl) (bl_le _ _)) (GX.takeG (v := .bool (decide (x41.xLo ≤ x70.xLo))) (rs := []) 23 rfl rfl rfl (dT h57) (by kernel_rfl) (fun _ _ => Yl.pickF rfl (dF (not_not_intro h69)) rfl) (GX.take (v := .bool (decide (x41.xLo ≤ x70.xLo))) (rs := []) 24 rfl (by kernel_rfl) (fun _ _ => Yl.pickT rfl (dT h57) rfl) (GX.done (by kernel_rfl) (Fin.then ?_)))))))
 by_cases h72 : x41.xLo ≤ x70.xLo
 refine jT (dT h72) (sr (An rfl (rt (bR (tR (tR (bR (tR (rs ?_)))))))))
 have H73 := H67.pk []
 obtain rfl : _ = 170 := hr.symm.trans (et (iN h21) (et (iN h23) (et (bnd_of (getD_of hx26)) (et (iN h27) (lp_r (et (hq38) (et (congrArg (fun q => owner_Check_L0 l0 q k29) hd43) (et (bnd_of hr50) (et (ip h54) (et (ip h57) (et (bnd_of hr64) (et (ip h69) (et (bnd_of (getD_of hx71)) (ip h72))))))))))))))
 exact ⟨rfl, H73⟩
 refine jF (dF h72) (Wp.skip (bN (Fin.then (Wp.region (fw (.int .i64 ((k29 + 1 : Nat) : Int)) (Yl.int (e := IntKind.i64.wrap (((k29 : Nat) : Int) + 1)) yk (by rw [IntWalk.i64_in _ (by omega)]; omega)) (Mz rfl (WL.nil ?_)))))))
 have H74 := H67.pk []
 exact Fin.round (k29 + 1) ⟨rfl, rfl, rfl, rfl, trivial⟩ (dm37.2 ⟨H74, by omega, et (hq38) (et (congrArg (fun q => owner_Check_L0 l0 q k29) hd43) (et (bnd_of hr50) (et (ip h54) (et (ip h57) (et (bnd_of hr64) (et (ip h69) (et (bnd_of (getD_of hx71)) (iN h72))))))))⟩) (by show l0.length - (k29 + 1) < l0.length - k29; omega)
 refine GX.skipG (rs := []) 11 rfl rfl rfl (dT h69) (by kernel_rfl) (GX.skipG (rs := []) 12 rfl rfl rfl (dT h69) (by kernel_rfl) (GX.skipG (rs := []) 13 rfl rfl rfl (dT h69) (by kernel_rfl) (GX.skipG (rs := []) 14 rfl rfl rfl (dT h69) (by kernel_rfl) (GX.skipG (rs := []) 15 rfl rfl rfl (dT h69) (by kernel_rfl) (GX.skipG (rs := []) 16 rfl rfl rfl (dT h69) (by kernel_rfl) (GX.skipG (rs := []) 17 rfl rfl rfl (dT h69) (by kernel_rfl) (GX.skipG (rs := []) 18 rfl rfl rfl (dT h69) (by kernel_rfl) (GX.skipG (rs := []) 19 rfl rfl rfl (dT h69) (by kernel_rfl) (GX.skipG (rs := []) 20 rfl rfl rfl (dT h69) (by kernel_rfl) (GX.skipG (rs := []) 21 rfl rfl rfl (dT h69) (by kernel_rfl) (GX.skipG (rs := []) 22 rfl rfl rfl (dT h69) (by kernel_rfl) (GX.takeG (v := .bool true) (rs := []) 23 rfl rfl rfl (dT h57) (by kernel_rfl) (fun _ _ => Yl.pickT rfl (dT h69) rfl) (GX.take (v := .bool true) (rs := []) 24 rfl (by kernel_rfl) (fun _ _ => Yl.pickT rfl (dT h57) rfl) (GX.done (by kernel_rfl) (Fin.then (jt (sr (An rfl (rt (bR (tR (tR (bR (tR (rs ?_)))))))))))))))))))))))))
 have H75 := H67.pk []
 obtain rfl : _ = 170 := hr.symm.trans (et (iN h21) (et (iN h23) (et (bnd_of (getD_of hx26)) (et (iN h27) (lp_r (et (hq38) (et (congrArg (fun q => owner_Check_L0 l0 q k29) hd43) (et (bnd_of hr50) (et (ip h54) (et (ip h57) (et (bnd_of hr64) (iN h69))))))))))))
 exact ⟨rfl, H75⟩
 refine GX.skipG (rs := []) 3 rfl rfl rfl (dF h57) (by kernel_rfl) (GX.skipG (rs := []) 4 rfl rfl rfl (dF h57) (by kernel_rfl) (GX.skipG (rs := []) 5 rfl rfl rfl (dF h57) (by kernel_rfl) (GX.skipG (rs := []) 6 rfl rfl rfl (dF h57) (by kernel_rfl) (GX.skipG (rs := []) 7 rfl rfl rfl (dF h57) (by kernel_rfl) (GX.skipG (rs := []) 8 rfl rfl rfl (dF h57) (by kernel_rfl) (GX.skipG (rs := []) 9 rfl rfl rfl (dF h57) (by kernel_rfl) (GX.skipG (rs := []) 10 rfl rfl rfl (dF h57) (by kernel_rfl) (GX.skipUG (rs := []) 11 rfl rfl rfl (by kernel_rfl) (GX.skipUG (rs := []) 12 rfl rfl rfl (by kernel_rfl) (GX.skipUG (rs := []) 13 rfl rfl rfl (by kernel_rfl) (GX.skipUG (rs := []) 14 rfl rfl rfl (by kernel_rfl) (GX.skipUG (rs := []) 15 rfl rfl rfl (by kernel_rfl) (GX.skipUG (rs := []) 16 rfl rfl rfl (by kernel_rfl) (GX.skipUG (rs := []) 17 rfl rfl rfl (by kernel_rfl) (GX.skipUG (rs := []) 18 rfl rfl rfl (by kernel_rfl) (GX.skipUG (rs := []) 19 rfl rfl rfl (by kernel_rfl) (GX.skipUG (rs := []) 20 rfl rfl rfl (by kernel_rfl) (GX.skipUG (rs := []) 21 rfl rfl rfl (by kernel_rfl) (GX.skipUG (rs := []) 22 rfl rfl rfl (by kernel_rfl) (GX.skipG (rs := []) 23 rfl rfl rfl (dF h57) (by kernel_rfl) (GX.take (v := .bool false) (rs := []) 24 rfl (by kernel_rfl) (fun _ _ => Yl.pickF rfl (dF h57) rfl) (GX.done (by kernel_rfl) (Fin.then (jf (Wp.skip (bN (Fin.then (Wp.region (fw (.int .i64 ((k29 + 1 : Nat) : Int)) (Yl.int (e := IntKind.i64.wrap (((k29 : Nat) : Int) + 1)) yk (by rw [IntWalk.i64_in _ (by omega)]; omega)) (Mz rfl (WL.nil ?_)))))))))))))))))))))))))))))))
 have H76 := H56.pk []
 exact Fin.round (k29 + 1) ⟨rfl, rfl, rfl, rfl, trivial⟩ (dm37.2 ⟨H76, by omega, et (hq38) (et (congrArg (fun q => owner_Check_L0 l0 q k29) hd43) (et (bnd_of hr50) (et (ip h54) (iN h57))))⟩) (by show l0.length - (k29 + 1) < l0.length - k29; omega)
 refine jT (cn h54) (sr (An rfl (rt (tR (bR (tR (tR (bR (tR (rs ?_))))))))))
 have H77 := H53.pk []
 obtain rfl : _ = 170 := hr.symm.trans (et (iN h21) (et (iN h23) (et (bnd_of (getD_of hx26)) (et (iN h27) (lp_r (et (hq38) (et (congrArg (fun q => owner_Check_L0 l0 q k29) hd43) (et (bnd_of hr50) (ifF h54)))))))))
 exact ⟨rfl, H77⟩
 refine jF (dF h40) (Wp.exit (Fin.thenX ?_))
 have hL78 : owner_Check_L0 l0 l0 0 = Sum.inl () := et (hq38) (et (congrArg (fun q => owner_Check_L0 l0 q k29) (drop_end (ls := l0) (i := k29) (by omega))) rfl)
 refine Fin.thenX (Fin.blockX (Fin.then (sr (An rfl (rt (rs ?_))))))
 have H79 := H33.pk []
 obtain rfl : _ = 0 := hr.symm.trans (et (iN h21) (et (iN h23) (et (bnd_of (getD_of hx26)) (et (iN h27) (lp_l hL78)))))
 exact ⟨rfl, H79⟩
def wire_role_is (p0 : Int) (p1 : Int) : Bool :=
 if p0 = 1 then if p1 ≥ 1 then decide (p1 ≤ 4) else false else if p0 = 2 then if p1 ≥ 11 then decide (p1 < 15) else false else decide (p1 = 0)
set_option maxRecDepth 100000 in
theorem wire_role_is_ok (w : World) (D : Nat → Prop) (p0 : Int) (p1 : Int) (r0 : Bool) (H : Own w D w [])  (hr : wire_role_is p0 p1 = r0) :
    Calls Tryz.prog 23 #[.int .i64 p0, .int .i64 p1] w (Ret fun v w' => v = .bool r0 ∧ Own w D w' []) := by
 refine Calls.body (args := [.int .i64 p0, .int .i64 p1]) Tryz.func23 rfl rfl rfl ?_
 show Wp _ _ _ [(0, .int .i64 p0), (1, .int .i64 p1)] _ _
 refine sr (An rfl (Wp.seq (sr (Mn rfl (bo (sr (Kz (.bool (decide (p0 = 1))) (An rfl ?_))))))))
 by_cases h21 : p0 = 1
 refine jT (dT h21) (sr (Mz rfl (Kz (.bool (decide (p1 ≥ 1))) (Mz rfl ?_))))
 by_cases h22 : p1 ≥ 1
 refine gw (.int .i64 p1) (dT h22) (Yl.move rfl) (Gz (.bool (decide (p1 ≤ 4))) (dT h22) (fw (.bool (decide (p1 ≤ 4))) (Yl.pickT rfl (dT h22) rfl) (An rfl (rt (bR (tR (rs ?_)))))))
 have H23 : Own w D w [] := H.pk []
 obtain rfl : _ = decide (p1 ≤ 4) := hr.symm.trans (et (ip h21) (ip h22))
 exact ⟨rfl, H23⟩
 refine Sz (dF h22) (Sz (dF h22) (fw (.bool false) (Yl.pickF rfl (dF h22) rfl) (An rfl (rt (bR (tR (rs ?_)))))))
 have H24 : Own w D w [] := H.pk []
 obtain rfl : _ = false := hr.symm.trans (et (ip h21) (iN h22))
 exact ⟨rfl, H24⟩
 refine jF (dF h21) (sr (Kz (.bool (decide (p0 = 2))) (An rfl ?_)))
 by_cases h25 : p0 = 2
 refine jT (dT h25) (sr (Mz rfl (Kz (.bool (decide (p1 ≥ 11))) (Mz rfl ?_))))
 by_cases h26 : p1 ≥ 11
 refine gw (.int .i64 p1) (dT h26) (Yl.move rfl) (Gz (.bool (decide (p1 < 15))) (dT h26) (fw (.bool (decide (p1 < 15))) (Yl.pickT rfl (dT h26) rfl) (An rfl (rt (bR (tR (rs ?_)))))))
 have H27 : Own w D w [] := H.pk []
 obtain rfl : _ = decide (p1 < 15) := hr.symm.trans (et (iN h21) (et (ip h25) (ip h26)))
 exact ⟨rfl, H27⟩
 refine Sz (dF h26) (Sz (dF h26) (fw (.bool false) (Yl.pickF rfl (dF h26) rfl) (An rfl (rt (bR (tR (rs ?_)))))))
 have H28 : Own w D w [] := H.pk []
 obtain rfl : _ = false := hr.symm.trans (et (iN h21) (et (ip h25) (iN h26)))
 exact ⟨rfl, H28⟩
 refine jF (dF h25) (Wp.skip (bN (Fin.then (sr (Mz rfl (Kz (.bool (decide (p1 = 0))) (An rfl (rt (rs ?_)))))))))
 have H29 : Own w D w [] := H.pk []
 obtain rfl : _ = decide (p1 = 0) := hr.symm.trans (et (iN h21) (iN h25))
 exact ⟨rfl, H29⟩
def wire_may (p0 : MsgT) (p1 : Int) : Bool :=
 if p1 = 2 then bnd (wire_mayCode p0.xKind p0.xCode) fun yr30 => yr30 else if p1 = 3 then bnd (wire_mayResults p0.xKind p0.xResults.ls) fun yr42 => yr42 else if p1 = 7 then bnd (wire_mayOps p0.xKind p0.xOps.ls) fun yr54 => yr54 else if p1 = 11 then bnd (owner_Check p0.xOwners.ls) fun yr66 => decide (yr66 = 0) else if p1 = 12 then bnd (wire_role_is 1 p0.xPeer) fun yr78 => yr78 else if p1 = 13 then bnd (span_Check p0.xRange) fun yr90 => decide (yr90 = 0) else true
set_option maxRecDepth 100000 in
theorem wire_may_ok (w : World) (D : Nat → Prop) (p0 : MsgT) (A0x0 : Option Addr) (n0x0 c0x0 : Nat) (A0x1 : Option Addr) (n0x1 c0x1 : Nat) (d0x1 : List ResultD) (A0x2 : Option Addr) (n0x2 c0x2 : Nat) (p1 : Int) (r0 : Bool) (H : Own w D w []) (hn0x0 : n0x0 = p0.xOps.ls.length) (hx0x0 : Ro w D fun w' => Rds w' 6 A0x0 p0.xOps.ls.length (List.flatMap OpD.cells p0.xOps.ls)) (hb0x0 : p0.xOps.ls.length ≤ c0x0 ∧ p0.xOps.ls.length ≤ 9223372036854775807) (hd0x1 : List.map ResultD.abs d0x1 = p0.xResults.ls) (hn0x1 : n0x1 = p0.xResults.ls.length) (hx0x1 : Ro w D fun w' => Rds w' 3 A0x1 p0.xResults.ls.length (List.flatMap ResultD.cells d0x1)) (hb0x1 : p0.xResults.ls.length ≤ c0x1 ∧ p0.xResults.ls.length ≤ 9223372036854775807) (hm0x1 : ∀ x ∈ d0x1, Ro w D (fun w' => Rds w' 2 x.xPairs.A x.xPairs.ls.length (List.flatMap PairD.cells x.xPairs.ls)) ∧ (x.xPairs.ls.length ≤ x.xPairs.c ∧ x.xPairs.ls.length ≤ 9223372036854775807)) (hn0x2 : n0x2 = p0.xOwners.ls.length) (hx0x2 : Ro w D fun w' => Rds w' 2 A0x2 p0.xOwners.ls.length (List.flatMap OwnerD.cells p0.xOwners.ls)) (hb0x2 : p0.xOwners.ls.length ≤ c0x2 ∧ p0.xOwners.ls.length ≤ 9223372036854775807) (hh0 : p0.xOps.ls.length ≤ 140737488355328 ∧ p0.xResults.ls.length ≤ 140737488355328 ∧ p0.xOwners.ls.length ≤ 140737488355328) (hr : wire_may p0 p1 = r0) :
    Calls Tryz.prog 71 #[.agg (MsgC p0.xKind p0.xFrom p0.xTo p0.xClient p0.xCode p0.xPeer p0.xReq p0.xBoot p0.xTxn p0.xLow p0.xVer p0.xEpoch p0.xMove p0.xAttempt p0.xN p0.xFlag p0.xRange.xLo p0.xRange.xHi A0x0 n0x0 c0x0 A0x1 n0x1 c0x1 A0x2 n0x2 c0x2).toArray, .int .i64 p1] w (Ret fun v w' => v = .bool r0 ∧ Own w D w' []) := by
 subst hn0x0 hn0x1 hn0x2
 have hdl0x1 := abs_len hd0x1
 refine Calls.body (args := [.agg (MsgP p0 A0x0 c0x0 A0x1 c0x1 A0x2 c0x2).toArray, .int .i64 p1]) Tryz.func71 rfl rfl rfl ?_
 show Wp _ _ _ [(0, .agg (MsgP p0 A0x0 c0x0 A0x1 c0x1 A0x2 c0x2).toArray), (1, .int .i64 p1)] _ _
 refine sr ?_
 refine npw (MsgP p0 A0x0 c0x0 A0x1 c0x1 A0x2 c0x2) 29 H ?_
 intro g21 w22 H23
 refine An rfl (Wp.seq (sr (Mn rfl (bo (sr (Kz (.bool (decide (p1 = 2))) (An rfl ?_)))))))
 by_cases h24 : p1 = 2
 refine jT (dT h24) (sr (Kz (.pointer (some ⟨g21, 0, none⟩)) (Lz (.int .i64 p0.xKind) H23 0 Tryz.isAgg3 (Kz (.pointer (some ⟨g21, 4, none⟩)) (Lz (.int .i64 p0.xCode) H23 0 Tryz.isAgg3 ?_)))))
 obtain ⟨r30, hr31⟩ : ∃ q, wire_mayCode p0.xKind p0.xCode = q := ⟨_, rfl⟩
 obtain ⟨D25, HP26, ro27, bk28, rr29⟩ := Own.enter0 H23
 refine cl Tryz.call103 (wire_mayCode_ok _ _ p0.xKind p0.xCode r30 HP26 hr31) ?_
 rintro _ w32 ⟨rfl, HQ33⟩
 have H34 := bk28 _ _ HQ33
 refine An rfl (rt (bR (tR (rs ?_))))
 have H35 := H34.pk []
 obtain rfl : _ = r30 := hr.symm.trans (et (ip h24) (bnd_of hr31))
 exact ⟨rfl, H35⟩
 refine jF (dF h24) (sr (Kz (.bool (decide (p1 = 3))) (An rfl ?_)))
 by_cases h36 : p1 = 3
 refine jT (dT h36) (sr (Kz (.pointer (some ⟨g21, 0, none⟩)) (Lz (.int .i64 p0.xKind) H23 0 Tryz.isAgg3 (Kz (.pointer (some ⟨g21, 19, none⟩)) (Lz (.slice A0x1 p0.xResults.ls.length c0x1) H23 0 Tryz.isAgg26 ?_)))))
 obtain ⟨r42, hr43⟩ : ∃ q, wire_mayResults p0.xKind p0.xResults.ls = q := ⟨_, rfl⟩
 obtain ⟨D37, HP38, ro39, bk40, rr41⟩ := Own.enter0 H23
 refine cl Tryz.call104 (wire_mayResults_ok _ _ p0.xKind A0x1 p0.xResults.ls.length c0x1 d0x1 p0.xResults.ls r42 HP38 hd0x1 (ro39 _ hx0x1) (fun x9 h9 => ⟨ro39 _ (hm0x1 x9 h9).1, (hm0x1 x9 h9).2⟩) rfl (by omega) hr43) ?_
 rintro _ w44 ⟨rfl, HQ45⟩
 have H46 := bk40 _ _ HQ45
 refine An rfl (rt (bR (tR (rs ?_))))
 have H47 := H46.pk []
 obtain rfl : _ = r42 := hr.symm.trans (et (iN h24) (et (ip h36) (bnd_of hr43)))
 exact ⟨rfl, H47⟩
 refine jF (dF h36) (sr (Kz (.bool (decide (p1 = 7))) (An rfl ?_)))
 by_cases h48 : p1 = 7
 refine jT (dT h48) (sr (Kz (.pointer (some ⟨g21, 0, none⟩)) (Lz (.int .i64 p0.xKind) H23 0 Tryz.isAgg3 (Kz (.pointer (some ⟨g21, 18, none⟩)) (Lz (.slice A0x0 p0.xOps.ls.length c0x0) H23 0 Tryz.isAgg25 ?_)))))
 obtain ⟨r54, hr55⟩ : ∃ q, wire_mayOps p0.xKind p0.xOps.ls = q := ⟨_, rfl⟩
 obtain ⟨D49, HP50, ro51, bk52, rr53⟩ := Own.enter0 H23
 refine cl Tryz.call105 (wire_mayOps_ok _ _ p0.xKind A0x0 p0.xOps.ls.length c0x0 p0.xOps.ls r54 HP50 (ro51 _ hx0x0) rfl (by omega) hr55) ?_
 rintro _ w56 ⟨rfl, HQ57⟩
 have H58 := bk52 _ _ HQ57
 refine An rfl (rt (bR (tR (rs ?_))))
 have H59 := H58.pk []
 obtain rfl : _ = r54 := hr.symm.trans (et (iN h24) (et (iN h36) (et (ip h48) (bnd_of hr55))))
 exact ⟨rfl, H59⟩
 refine jF (dF h48) (sr (Kz (.bool (decide (p1 = 11))) (An rfl ?_)))
 by_cases h60 : p1 = 11
 refine jT (dT h60) (sr (Kz (.pointer (some ⟨g21, 20, none⟩)) (Lz (.slice A0x2 p0.xOwners.ls.length c0x2) H23 0 Tryz.isAgg27 ?_)))
 obtain ⟨r66, hr67⟩ : ∃ q, owner_Check p0.xOwners.ls = q := ⟨_, rfl⟩
 obtain ⟨D61, HP62, ro63, bk64, rr65⟩ := Own.enter0 H23
 refine cl Tryz.call106 (owner_Check_ok _ _ A0x2 p0.xOwners.ls.length c0x2 p0.xOwners.ls r66 HP62 (ro63 _ hx0x2) rfl (by omega) hr67) ?_
 rintro _ w68 ⟨rfl, HQ69⟩
 have H70 := bk64 _ _ HQ69
 refine Kz (.bool (decide (r66 = 0))) (An rfl (rt (bR (tR (rs ?_)))))
 have H71 := H70.pk []
 obtain rfl : _ = decide (r66 = 0) := hr.symm.trans (et (iN h24) (et (iN h36) (et (iN h48) (et (ip h60) (bnd_of hr67)))))
 exact ⟨rfl, H71⟩
 refine jF (dF h60) (sr (Kz (.bool (decide (p1 = 12))) (An rfl ?_)))
 by_cases h72 : p1 = 12
 refine jT (dT h72) (sr (Kz (.pointer (some ⟨g21, 5, none⟩)) (Lz (.int .i64 p0.xPeer) H23 0 Tryz.isAgg3 ?_)))
 obtain ⟨r78, hr79⟩ : ∃ q, wire_role_is 1 p0.xPeer = q := ⟨_, rfl⟩
 obtain ⟨D73, HP74, ro75, bk76, rr77⟩ := Own.enter0 H23
 refine cl Tryz.call23 (wire_role_is_ok _ _ 1 p0.xPeer r78 HP74 hr79) ?_
 rintro _ w80 ⟨rfl, HQ81⟩
 have H82 := bk76 _ _ HQ81
 refine An rfl (rt (bR (tR (rs ?_))))
 have H83 := H82.pk []
 obtain rfl : _ = r78 := hr.symm.trans (et (iN h24) (et (iN h36) (et (iN h48) (et (iN h60) (et (ip h72) (bnd_of hr79))))))
 exact ⟨rfl, H83⟩
 refine jF (dF h72) (sr (Kz (.bool (decide (p1 = 13))) (An rfl ?_)))
 by_cases h84 : p1 = 13
 refine jT (dT h84) (sr (Kz (.pointer (some ⟨g21, 16, none⟩)) (La (RangeD.cells p0.xRange) H23 0 Tryz.isAgg24 Tryz.sizeOf24 ?_)))
 obtain ⟨r90, hr91⟩ : ∃ q, span_Check p0.xRange = q := ⟨_, rfl⟩
 obtain ⟨D85, HP86, ro87, bk88, rr89⟩ := Own.enter0 H23
 refine cl Tryz.call107 (span_Check_ok _ _ p0.xRange r90 HP86 hr91) ?_
 rintro _ w92 ⟨rfl, HQ93⟩
 have H94 := bk88 _ _ HQ93
 refine Kz (.bool (decide (r90 = 0))) (An rfl (rt (bR (tR (rs ?_)))))
 have H95 := H94.pk []
 obtain rfl : _ = decide (r90 = 0) := hr.symm.trans (et (iN h24) (et (iN h36) (et (iN h48) (et (iN h60) (et (iN h72) (et (ip h84) (bnd_of hr91)))))))
 exact ⟨rfl, H95⟩
 refine jF (dF h84) (Wp.skip (bN (Fin.then (sr (An rfl (rt (rs ?_)))))))
 have H96 := H23.pk []
 obtain rfl : _ = true := hr.symm.trans (et (iN h24) (et (iN h36) (et (iN h48) (et (iN h60) (et (iN h72) (iN h84))))))
 exact ⟨rfl, H96⟩
def wire_allMay_L0 (p0 : MsgT) : List Int → Unit ⊕ Bool
  | [] => Sum.inl ()
  | x36 :: q25 => bnd (wire_may p0 x36) fun yr44 => if yr44 = true then wire_allMay_L0 p0 q25 else Sum.inr (false)
def wire_allMay (p0 : MsgT) (l1 : List Int) : Bool :=
 lp (wire_allMay_L0 p0 l1) fun _ => true
set_option maxRecDepth 100000 in
theorem wire_allMay_ok (w : World) (D : Nat → Prop) (p0 : MsgT) (A0x0 : Option Addr) (n0x0 c0x0 : Nat) (A0x1 : Option Addr) (n0x1 c0x1 : Nat) (d0x1 : List ResultD) (A0x2 : Option Addr) (n0x2 c0x2 : Nat) (A1 : Option Addr) (n1 c1 : Nat) (l1 : List Int) (r0 : Bool) (H : Own w D w []) (hn0x0 : n0x0 = p0.xOps.ls.length) (hx0x0 : Ro w D fun w' => Rds w' 6 A0x0 p0.xOps.ls.length (List.flatMap OpD.cells p0.xOps.ls)) (hb0x0 : p0.xOps.ls.length ≤ c0x0 ∧ p0.xOps.ls.length ≤ 9223372036854775807) (hd0x1 : List.map ResultD.abs d0x1 = p0.xResults.ls) (hn0x1 : n0x1 = p0.xResults.ls.length) (hx0x1 : Ro w D fun w' => Rds w' 3 A0x1 p0.xResults.ls.length (List.flatMap ResultD.cells d0x1)) (hb0x1 : p0.xResults.ls.length ≤ c0x1 ∧ p0.xResults.ls.length ≤ 9223372036854775807) (hm0x1 : ∀ x ∈ d0x1, Ro w D (fun w' => Rds w' 2 x.xPairs.A x.xPairs.ls.length (List.flatMap PairD.cells x.xPairs.ls)) ∧ (x.xPairs.ls.length ≤ x.xPairs.c ∧ x.xPairs.ls.length ≤ 9223372036854775807)) (hn0x2 : n0x2 = p0.xOwners.ls.length) (hx0x2 : Ro w D fun w' => Rds w' 2 A0x2 p0.xOwners.ls.length (List.flatMap OwnerD.cells p0.xOwners.ls)) (hb0x2 : p0.xOwners.ls.length ≤ c0x2 ∧ p0.xOwners.ls.length ≤ 9223372036854775807) (hx1 : Ro w D fun w' => Rds w' 1 A1 n1 (List.flatMap (eI .i64) l1)) (hn1 : n1 = l1.length) (hl1 : l1.length * 8 ≤ 211106232532992) (hh0 : p0.xOps.ls.length ≤ 140737488355328 ∧ p0.xResults.ls.length ≤ 140737488355328 ∧ p0.xOwners.ls.length ≤ 140737488355328) (hr : wire_allMay p0 l1 = r0) :
    Calls Tryz.prog 26 #[.agg (MsgC p0.xKind p0.xFrom p0.xTo p0.xClient p0.xCode p0.xPeer p0.xReq p0.xBoot p0.xTxn p0.xLow p0.xVer p0.xEpoch p0.xMove p0.xAttempt p0.xN p0.xFlag p0.xRange.xLo p0.xRange.xHi A0x0 n0x0 c0x0 A0x1 n0x1 c0x1 A0x2 n0x2 c0x2).toArray, .slice A1 n1 c1] w (Ret fun v w' => v = .bool r0 ∧ Own w D w' []) := by
 subst hn1 hn0x0 hn0x1 hn0x2
 have hdl0x1 := abs_len hd0x1
 refine Calls.body (args := [.agg (MsgP p0 A0x0 c0x0 A0x1 c0x1 A0x2 c0x2).toArray, .slice A1 l1.length c1]) Tryz.func26 rfl rfl rfl ?_
 show Wp _ _ _ [(0, .agg (MsgP p0 A0x0 c0x0 A0x1 c0x1 A0x2 c0x2).toArray), (1, .slice A1 l1.length c1)] _ _
 refine sr ?_
 refine npw (MsgP p0 A0x0 c0x0 A0x1 c0x1 A0x2 c0x2) 29 H ?_
 intro g21 w22 H23
 refine An rfl (Wp.seq (sr (Mz rfl (Kz (.int .i64 ((l1.length : Nat) : Int)) (Mn rfl (bo ?_))))))
 have H26 := H23.pk [0]
 obtain ⟨I30, hI31⟩ : ∃ q : Nat → World → Prop, q = fun (i : Nat) w' => Own w D w' [blk g21 (MsgP p0 A0x0 c0x0 A0x1 c0x1 A0x2 c0x2) 29] ∧ (i ≤ l1.length ∧ wire_allMay_L0 p0 l1 = wire_allMay_L0 p0 (List.drop i l1)) := ⟨_, rfl⟩
 have dm32 : ∀ {k24 : Nat} {w' : World}, I30 k24 w' ↔ Own w D w' [blk g21 (MsgP p0 A0x0 c0x0 A0x1 c0x1 A0x2 c0x2) 29] ∧ k24 ≤ l1.length ∧ wire_allMay_L0 p0 l1 = wire_allMay_L0 p0 (List.drop k24 l1) := by intros; subst hI31; exact Iff.rfl
 refine Wp.loop (fun i : Nat => [(4, .bool false), (9, .int .i64 ((i : Nat) : Int)), (8, .int .i64 ((l1.length : Nat) : Int)), (7, .slice A1 l1.length c1), (2, .pointer (some ⟨g21, 0, none⟩))]) I30 (fun i => l1.length - i) 0 ⟨rfl, rfl, rfl, rfl, rfl, trivial⟩ (dm32.2 ⟨H26, by omega, rfl⟩) ?_
 rintro k24 w27 hf29
 show Wp _ _ _ [(4, .bool false), (9, .int .i64 ((k24 : Nat) : Int)), (8, .int .i64 ((l1.length : Nat) : Int)), (7, .slice A1 l1.length c1), (2, .pointer (some ⟨g21, 0, none⟩))] _ _
 obtain ⟨H28, hi34, hq33⟩ := dm32.1 hf29
 refine sr (Kz (.bool (decide (((k24 : Nat) : Int) < ((l1.length : Nat) : Int)))) (nt (Wp.seq ?_)))
 by_cases h35 : ((k24 : Nat) : Int) < ((l1.length : Nat) : Int)
 obtain ⟨x36, hx37⟩ := rds_at (ls := l1) (i := k24) eI_len (by decide) (H28.ro hx1) (by first | omega | (simp; done) | (simp; omega))
 have hd38 := drop_at hx37
 refine jT (dT h35) (sk (Wp.seq (bo (sr (fw (.pointer (some ⟨ab A1, ao A1 + k24 * 1, none⟩)) (Yl.indexAddr (El48) rfl rfl ((H28.ro hx1).addr (i := k24) (by omega)) (by omega)) (fw (.int .i64 x36) (Yl.load rfl (Lds.one Tryz.isAgg93 (((H28.ro hx1).elem eI_len hx37 (by decide)).at_ (k := 0) rfl))) (Ar rfl (La (MsgP p0 A0x0 c0x0 A0x1 c0x1 A0x2 c0x2) H28 0 Tryz.isAgg29 Tryz.sizeOf29 (Mz rfl ?_)))))))))
 obtain ⟨r44, hr45⟩ : ∃ q, wire_may p0 x36 = q := ⟨_, rfl⟩
 obtain ⟨D39, HP40, ro41, bk42, rr43⟩ := Own.enter0 H28
 refine cl Tryz.call71 (wire_may_ok _ _ p0 A0x0 p0.xOps.ls.length c0x0 A0x1 p0.xResults.ls.length c0x1 d0x1 A0x2 p0.xOwners.ls.length c0x2 x36 r44 HP40 rfl (ro41 _ hx0x0) (show p0.xOps.ls.length ≤ c0x0 ∧ p0.xOps.ls.length ≤ 9223372036854775807 from by omega) hd0x1 rfl (ro41 _ hx0x1) (show p0.xResults.ls.length ≤ c0x1 ∧ p0.xResults.ls.length ≤ 9223372036854775807 from by omega) (fun x9 h9 => ⟨ro41 _ (hm0x1 x9 h9).1, (hm0x1 x9 h9).2⟩) rfl (ro41 _ hx0x2) (show p0.xOwners.ls.length ≤ c0x2 ∧ p0.xOwners.ls.length ≤ 9223372036854775807 from by omega) (by first | omega | (dsimp only; omega) | (simp only [List.length_nil]; omega)) hr45) ?_
 rintro _ w46 ⟨rfl, HQ47⟩
 have H48 := bk42 _ _ HQ47
 refine Kz (.bool (!r44)) (nt ?_)
 rcases Bool.eq_false_or_eq_true (r44) with h49 | h49
 refine jF (cn h49) (Wp.skip (bN (Fin.then (Wp.region (fw (.int .i64 ((k24 + 1 : Nat) : Int)) (Yl.int (e := IntKind.i64.wrap (((k24 : Nat) : Int) + 1)) yk (by rw [IntWalk.i64_in _ (by omega)]; omega)) (Mz rfl (WL.nil ?_)))))))
 have H50 := H48.pk [0]
 exact Fin.round (k24 + 1) ⟨rfl, rfl, rfl, rfl, rfl, trivial⟩ (dm32.2 ⟨H50, by omega, et (hq33) (et (congrArg (fun q => wire_allMay_L0 p0 q) hd38) (et (bnd_of hr45) (ip h49)))⟩) (by show l1.length - (k24 + 1) < l1.length - k24; omega)
 refine jT (cn h49) (sr (An rfl (rt (bR (tR (tR (bR (tR (rs ?_)))))))))
 have H51 := H48.pk []
 obtain rfl : _ = false := hr.symm.trans (lp_r (et (hq33) (et (congrArg (fun q => wire_allMay_L0 p0 q) hd38) (et (bnd_of hr45) (ifF h49)))))
 exact ⟨rfl, H51⟩
 refine jF (dF h35) (Wp.exit (Fin.thenX ?_))
 have hL52 : wire_allMay_L0 p0 l1 = Sum.inl () := et (hq33) (et (congrArg (fun q => wire_allMay_L0 p0 q) (drop_end (ls := l1) (i := k24) (by omega))) rfl)
 refine Fin.thenX (Fin.blockX (Fin.then (sr (An rfl (rt (rs ?_))))))
 have H53 := H28.pk []
 obtain rfl : _ = true := hr.symm.trans (lp_l hL52)
 exact ⟨rfl, H53⟩
def wire_blank (p0 : MsgT) : Bool :=
 if ((bOr64 (bOr64 (bOr64 (bOr64 (bOr64 (bOr64 (bOr64 (bOr64 p0.xReq p0.xBoot) p0.xTxn) p0.xLow) p0.xVer) p0.xEpoch) p0.xMove) p0.xAttempt) p0.xN : Nat) : Int) = 0 then if (((p0.xOps.ls.length + p0.xResults.ls.length) + p0.xOwners.ls.length : Nat) : Int) = 0 then if p0.xClient = 0 then if p0.xCode = 0 then if p0.xPeer = 0 then if p0.xFlag = true then false else decide ((p0.xRange.xLo = ([])) ∧ (p0.xRange.xHi = ([]))) else false else false else false else false else false
set_option maxRecDepth 100000 in
theorem wire_blank_ok (w : World) (D : Nat → Prop) (p0 : MsgT) (A0x0 : Option Addr) (n0x0 c0x0 : Nat) (A0x1 : Option Addr) (n0x1 c0x1 : Nat) (d0x1 : List ResultD) (A0x2 : Option Addr) (n0x2 c0x2 : Nat) (r0 : Bool) (H : Own w D w []) (hn0x0 : n0x0 = p0.xOps.ls.length) (hx0x0 : Ro w D fun w' => Rds w' 6 A0x0 p0.xOps.ls.length (List.flatMap OpD.cells p0.xOps.ls)) (hb0x0 : p0.xOps.ls.length ≤ c0x0 ∧ p0.xOps.ls.length ≤ 9223372036854775807) (hd0x1 : List.map ResultD.abs d0x1 = p0.xResults.ls) (hn0x1 : n0x1 = p0.xResults.ls.length) (hx0x1 : Ro w D fun w' => Rds w' 3 A0x1 p0.xResults.ls.length (List.flatMap ResultD.cells d0x1)) (hb0x1 : p0.xResults.ls.length ≤ c0x1 ∧ p0.xResults.ls.length ≤ 9223372036854775807) (hm0x1 : ∀ x ∈ d0x1, Ro w D (fun w' => Rds w' 2 x.xPairs.A x.xPairs.ls.length (List.flatMap PairD.cells x.xPairs.ls)) ∧ (x.xPairs.ls.length ≤ x.xPairs.c ∧ x.xPairs.ls.length ≤ 9223372036854775807)) (hn0x2 : n0x2 = p0.xOwners.ls.length) (hx0x2 : Ro w D fun w' => Rds w' 2 A0x2 p0.xOwners.ls.length (List.flatMap OwnerD.cells p0.xOwners.ls)) (hb0x2 : p0.xOwners.ls.length ≤ c0x2 ∧ p0.xOwners.ls.length ≤ 9223372036854775807) (hh0 : p0.xOps.ls.length ≤ 140737488355328 ∧ p0.xResults.ls.length ≤ 140737488355328 ∧ p0.xOwners.ls.length ≤ 140737488355328) (hr : wire_blank p0 = r0) :
    Calls Tryz.prog 24 #[.agg (MsgC p0.xKind p0.xFrom p0.xTo p0.xClient p0.xCode p0.xPeer p0.xReq p0.xBoot p0.xTxn p0.xLow p0.xVer p0.xEpoch p0.xMove p0.xAttempt p0.xN p0.xFlag p0.xRange.xLo p0.xRange.xHi A0x0 n0x0 c0x0 A0x1 n0x1 c0x1 A0x2 n0x2 c0x2).toArray] w (Ret fun v w' => v = .bool r0 ∧ Own w D w' []) := by
 subst hn0x0 hn0x1 hn0x2
 have hdl0x1 := abs_len hd0x1
 refine Calls.body (args := [.agg (MsgP p0 A0x0 c0x0 A0x1 c0x1 A0x2 c0x2).toArray]) Tryz.func24 rfl rfl rfl ?_
 show Wp _ _ _ [(0, .agg (MsgP p0 A0x0 c0x0 A0x1 c0x1 A0x2 c0x2).toArray)] _ _
 refine sr ?_
 refine npw (MsgP p0 A0x0 c0x0 A0x1 c0x1 A0x2 c0x2) 29 H ?_
 intro g21 w22 H23
 refine Ar rfl (Kz (.pointer (some ⟨g21, 6, none⟩)) (Lz (.int .u64 ((p0.xReq : Nat) : Int)) H23 0 Tryz.isAgg22 (Kz (.pointer (some ⟨g21, 7, none⟩)) (Lz (.int .u64 ((p0.xBoot : Nat) : Int)) H23 0 Tryz.isAgg22 ?_))))
 have hz24 : bOr64 p0.xReq p0.xBoot ≤ 18446744073709551615 := bOr64_le _ _
 refine fw (.int .u64 ((bOr64 p0.xReq p0.xBoot : Nat) : Int)) (Yl.int (e := IntKind.u64.wrap (((BitVec.ofInt 64 ((p0.xReq : Nat) : Int) ||| BitVec.ofInt 64 ((p0.xBoot : Nat) : Int)).toNat : Nat) : Int)) yk (wrap_nat_u64 _)) (Kz (.pointer (some ⟨g21, 8, none⟩)) (Lz (.int .u64 ((p0.xTxn : Nat) : Int)) H23 0 Tryz.isAgg22 ?_))
 have hz25 : bOr64 (bOr64 p0.xReq p0.xBoot) p0.xTxn ≤ 18446744073709551615 := bOr64_le _ _
 refine fw (.int .u64 ((bOr64 (bOr64 p0.xReq p0.xBoot) p0.xTxn : Nat) : Int)) (Yl.int (e := IntKind.u64.wrap (((BitVec.ofInt 64 ((bOr64 p0.xReq p0.xBoot : Nat) : Int) ||| BitVec.ofInt 64 ((p0.xTxn : Nat) : Int)).toNat : Nat) : Int)) yk (wrap_nat_u64 _)) (Kz (.pointer (some ⟨g21, 9, none⟩)) (Lz (.int .u64 ((p0.xLow : Nat) : Int)) H23 0 Tryz.isAgg22 ?_))
 have hz26 : bOr64 (bOr64 (bOr64 p0.xReq p0.xBoot) p0.xTxn) p0.xLow ≤ 18446744073709551615 := bOr64_le _ _
 refine fw (.int .u64 ((bOr64 (bOr64 (bOr64 p0.xReq p0.xBoot) p0.xTxn) p0.xLow : Nat) : Int)) (Yl.int (e := IntKind.u64.wrap (((BitVec.ofInt 64 ((bOr64 (bOr64 p0.xReq p0.xBoot) p0.xTxn : Nat) : Int) ||| BitVec.ofInt 64 ((p0.xLow : Nat) : Int)).toNat : Nat) : Int)) yk (wrap_nat_u64 _)) (Kz (.pointer (some ⟨g21, 10, none⟩)) (Lz (.int .u64 ((p0.xVer : Nat) : Int)) H23 0 Tryz.isAgg22 ?_))
 have hz27 : bOr64 (bOr64 (bOr64 (bOr64 p0.xReq p0.xBoot) p0.xTxn) p0.xLow) p0.xVer ≤ 18446744073709551615 := bOr64_le _ _
 refine fw (.int .u64 ((bOr64 (bOr64 (bOr64 (bOr64 p0.xReq p0.xBoot) p0.xTxn) p0.xLow) p0.xVer : Nat) : Int)) (Yl.int (e := IntKind.u64.wrap (((BitVec.ofInt 64 ((bOr64 (bOr64 (bOr64 p0.xReq p0.xBoot) p0.xTxn) p0.xLow : Nat) : Int) ||| BitVec.ofInt 64 ((p0.xVer : Nat) : Int)).toNat : Nat) : Int)) yk (wrap_nat_u64 _)) (Kz (.pointer (some ⟨g21, 11, none⟩)) (Lz (.int .u64 ((p0.xEpoch : Nat) : Int)) H23 0 Tryz.isAgg22 ?_))
 have hz28 : bOr64 (bOr64 (bOr64 (bOr64 (bOr64 p0.xReq p0.xBoot) p0.xTxn) p0.xLow) p0.xVer) p0.xEpoch ≤ 18446744073709551615 := bOr64_le _ _
 refine fw (.int .u64 ((bOr64 (bOr64 (bOr64 (bOr64 (bOr64 p0.xReq p0.xBoot) p0.xTxn) p0.xLow) p0.xVer) p0.xEpoch : Nat) : Int)) (Yl.int (e := IntKind.u64.wrap (((BitVec.ofInt 64 ((bOr64 (bOr64 (bOr64 (bOr64 p0.xReq p0.xBoot) p0.xTxn) p0.xLow) p0.xVer : Nat) : Int) ||| BitVec.ofInt 64 ((p0.xEpoch : Nat) : Int)).toNat : Nat) : Int)) yk (wrap_nat_u64 _)) (Kz (.pointer (some ⟨g21, 12, none⟩)) (Lz (.int .u64 ((p0.xMove : Nat) : Int)) H23 0 Tryz.isAgg22 ?_))
 have hz29 : bOr64 (bOr64 (bOr64 (bOr64 (bOr64 (bOr64 p0.xReq p0.xBoot) p0.xTxn) p0.xLow) p0.xVer) p0.xEpoch) p0.xMove ≤ 18446744073709551615 := bOr64_le _ _
 refine fw (.int .u64 ((bOr64 (bOr64 (bOr64 (bOr64 (bOr64 (bOr64 p0.xReq p0.xBoot) p0.xTxn) p0.xLow) p0.xVer) p0.xEpoch) p0.xMove : Nat) : Int)) (Yl.int (e := IntKind.u64.wrap (((BitVec.ofInt 64 ((bOr64 (bOr64 (bOr64 (bOr64 (bOr64 p0.xReq p0.xBoot) p0.xTxn) p0.xLow) p0.xVer) p0.xEpoch : Nat) : Int) ||| BitVec.ofInt 64 ((p0.xMove : Nat) : Int)).toNat : Nat) : Int)) yk (wrap_nat_u64 _)) (Kz (.pointer (some ⟨g21, 13, none⟩)) (Lz (.int .u64 ((p0.xAttempt : Nat) : Int)) H23 0 Tryz.isAgg22 ?_))
 have hz30 : bOr64 (bOr64 (bOr64 (bOr64 (bOr64 (bOr64 (bOr64 p0.xReq p0.xBoot) p0.xTxn) p0.xLow) p0.xVer) p0.xEpoch) p0.xMove) p0.xAttempt ≤ 18446744073709551615 := bOr64_le _ _
 refine fw (.int .u64 ((bOr64 (bOr64 (bOr64 (bOr64 (bOr64 (bOr64 (bOr64 p0.xReq p0.xBoot) p0.xTxn) p0.xLow) p0.xVer) p0.xEpoch) p0.xMove) p0.xAttempt : Nat) : Int)) (Yl.int (e := IntKind.u64.wrap (((BitVec.ofInt 64 ((bOr64 (bOr64 (bOr64 (bOr64 (bOr64 (bOr64 p0.xReq p0.xBoot) p0.xTxn) p0.xLow) p0.xVer) p0.xEpoch) p0.xMove : Nat) : Int) ||| BitVec.ofInt 64 ((p0.xAttempt : Nat) : Int)).toNat : Nat) : Int)) yk (wrap_nat_u64 _)) (Kz (.pointer (some ⟨g21, 14, none⟩)) (Lz (.int .u64 ((p0.xN : Nat) : Int)) H23 0 Tryz.isAgg22 ?_))
 have hz31 : bOr64 (bOr64 (bOr64 (bOr64 (bOr64 (bOr64 (bOr64 (bOr64 p0.xReq p0.xBoot) p0.xTxn) p0.xLow) p0.xVer) p0.xEpoch) p0.xMove) p0.xAttempt) p0.xN ≤ 18446744073709551615 := bOr64_le _ _
 refine fw (.int .u64 ((bOr64 (bOr64 (bOr64 (bOr64 (bOr64 (bOr64 (bOr64 (bOr64 p0.xReq p0.xBoot) p0.xTxn) p0.xLow) p0.xVer) p0.xEpoch) p0.xMove) p0.xAttempt) p0.xN : Nat) : Int)) (Yl.int (e := IntKind.u64.wrap (((BitVec.ofInt 64 ((bOr64 (bOr64 (bOr64 (bOr64 (bOr64 (bOr64 (bOr64 p0.xReq p0.xBoot) p0.xTxn) p0.xLow) p0.xVer) p0.xEpoch) p0.xMove) p0.xAttempt : Nat) : Int) ||| BitVec.ofInt 64 ((p0.xN : Nat) : Int)).toNat : Nat) : Int)) yk (wrap_nat_u64 _)) (Ar rfl (Kz (.pointer (some ⟨g21, 18, none⟩)) (Lz (.slice A0x0 p0.xOps.ls.length c0x0) H23 0 Tryz.isAgg25 (Kz (.int .i64 ((p0.xOps.ls.length : Nat) : Int)) (Kz (.pointer (some ⟨g21, 19, none⟩)) (Lz (.slice A0x1 p0.xResults.ls.length c0x1) H23 0 Tryz.isAgg26 (Kz (.int .i64 ((p0.xResults.ls.length : Nat) : Int)) (fw (.int .i64 ((p0.xOps.ls.length + p0.xResults.ls.length : Nat) : Int)) (Yl.int (e := IntKind.i64.wrap (((p0.xOps.ls.length : Nat) : Int) + ((p0.xResults.ls.length : Nat) : Int))) yk (by rw [IntWalk.i64_in _ (by omega)]; omega)) (Kz (.pointer (some ⟨g21, 20, none⟩)) (Lz (.slice A0x2 p0.xOwners.ls.length c0x2) H23 0 Tryz.isAgg27 (Kz (.int .i64 ((p0.xOwners.ls.length : Nat) : Int)) (fw (.int .i64 (((p0.xOps.ls.length + p0.xResults.ls.length) + p0.xOwners.ls.length : Nat) : Int)) (Yl.int (e := IntKind.i64.wrap (((p0.xOps.ls.length + p0.xResults.ls.length : Nat) : Int) + ((p0.xOwners.ls.length : Nat) : Int))) yk (by rw [IntWalk.i64_in _ (by omega)]; omega)) (Ar rfl (Mz rfl (Kz (.bool (decide (((bOr64 (bOr64 (bOr64 (bOr64 (bOr64 (bOr64 (bOr64 (bOr64 p0.xReq p0.xBoot) p0.xTxn) p0.xLow) p0.xVer) p0.xEpoch) p0.xMove) p0.xAttempt) p0.xN : Nat) : Int) = 0))) (Mz rfl ?_))))))))))))))))
 by_cases h32 : ((bOr64 (bOr64 (bOr64 (bOr64 (bOr64 (bOr64 (bOr64 (bOr64 p0.xReq p0.xBoot) p0.xTxn) p0.xLow) p0.xVer) p0.xEpoch) p0.xMove) p0.xAttempt) p0.xN : Nat) : Int) = 0
 refine gw (.int .i64 (((p0.xOps.ls.length + p0.xResults.ls.length) + p0.xOwners.ls.length : Nat) : Int)) (dT h32) (Yl.move rfl) (Gz (.bool (decide ((((p0.xOps.ls.length + p0.xResults.ls.length) + p0.xOwners.ls.length : Nat) : Int) = 0))) (dT h32) (fw (.bool (decide ((((p0.xOps.ls.length + p0.xResults.ls.length) + p0.xOwners.ls.length : Nat) : Int) = 0))) (Yl.pickT rfl (dT h32) rfl) (Mz rfl ?_)))
 by_cases h33 : (((p0.xOps.ls.length + p0.xResults.ls.length) + p0.xOwners.ls.length : Nat) : Int) = 0
 refine Gz (.pointer (some ⟨g21, 3, none⟩)) (dT h33) (Gl (.int .i64 p0.xClient) (dT h33) H23 0 Tryz.isAgg3 (Gz (.bool (decide (p0.xClient = 0))) (dT h33) (fw (.bool (decide (p0.xClient = 0))) (Yl.pickT rfl (dT h33) rfl) (Mz rfl ?_))))
 by_cases h34 : p0.xClient = 0
 refine Gz (.pointer (some ⟨g21, 4, none⟩)) (dT h34) (Gl (.int .i64 p0.xCode) (dT h34) H23 0 Tryz.isAgg3 (Gz (.bool (decide (p0.xCode = 0))) (dT h34) (fw (.bool (decide (p0.xCode = 0))) (Yl.pickT rfl (dT h34) rfl) (Mz rfl ?_))))
 by_cases h35 : p0.xCode = 0
 refine Gz (.pointer (some ⟨g21, 5, none⟩)) (dT h35) (Gl (.int .i64 p0.xPeer) (dT h35) H23 0 Tryz.isAgg3 (Gz (.bool (decide (p0.xPeer = 0))) (dT h35) (fw (.bool (decide (p0.xPeer = 0))) (Yl.pickT rfl (dT h35) rfl) (Mz rfl ?_))))
 by_cases h36 : p0.xPeer = 0
 refine Gz (.pointer (some ⟨g21, 15, none⟩)) (dT h36) (Gl (.bool p0.xFlag) (dT h36) H23 0 Tryz.isAgg4 (Gz (.bool (!p0.xFlag)) (dT h36) (fw (.bool (!p0.xFlag)) (Yl.pickT rfl (dT h36) rfl) (Mz rfl ?_))))
 rcases Bool.eq_false_or_eq_true (p0.xFlag) with h37 | h37
 refine Sz (cn h37) (Sz (cn h37) (Sz (cn h37) (Sz (cn h37) (fw (.bool false) (Yl.pickF rfl (cn h37) rfl) (An rfl (rt (rs ?_)))))))
 have H38 := H23.pk []
 obtain rfl : _ = false := hr.symm.trans (et (ip h32) (et (ip h33) (et (ip h34) (et (ip h35) (et (ip h36) (ip h37))))))
 exact ⟨rfl, H38⟩
 refine Gz (.pointer (some ⟨g21, 16, none⟩)) (cn h37) (Ga (RangeD.cells p0.xRange) (cn h37) H23 0 Tryz.isAgg24 Tryz.sizeOf24 (Gz (.agg #[.string ⟨List.toArray ([])⟩, .string ⟨List.toArray ([])⟩]) (cn h37) (gw (.bool (decide ((p0.xRange.xLo = ([])) ∧ (p0.xRange.xHi = ([]))))) (cn h37) (Yl.eqAgg rfl rfl (by kernel_rfl) rfl (Eqv.struct Tryz.underlying24 (by kernel_rfl) (EqF.dec (EqF.cons (u := .string ⟨List.toArray p0.xRange.xLo⟩) (v := .string ⟨List.toArray ([])⟩) (by decide) (fun _ => by kernel_rfl) (fun _ => by kernel_rfl) (Eqv.string Tryz.underlying9) (EqF.cons (u := .string ⟨List.toArray p0.xRange.xHi⟩) (v := .string ⟨List.toArray ([])⟩) (by decide) (fun _ => by kernel_rfl) (fun _ => by kernel_rfl) (Eqv.string Tryz.underlying9) (EqF.nil.up (Nat.zero_le _)))) ((congrArg (decide (p0.xRange.xLo = ([])) && ·) and_dec1).trans and_dec)))) (fw (.bool (decide ((p0.xRange.xLo = ([])) ∧ (p0.xRange.xHi = ([]))))) (Yl.pickT rfl (cn h37) rfl) (An rfl (rt (rs ?_)))))))
 have H39 := H23.pk []
 obtain rfl : _ = decide ((p0.xRange.xLo = ([])) ∧ (p0.xRange.xHi = ([]))) := hr.symm.trans (et (ip h32) (et (ip h33) (et (ip h34) (et (ip h35) (et (ip h36) (ifF h37))))))
 exact ⟨rfl, H39⟩
 refine Sz (dF h36) (Sz (dF h36) (Sz (dF h36) (fw (.bool false) (Yl.pickF rfl (dF h36) rfl) (Mz rfl (Sz rfl (Sz rfl (Sz rfl (Sz rfl (fw (.bool false) (Yl.pickF rfl rfl rfl) (An rfl (rt (rs ?_))))))))))))
 have H40 := H23.pk []
 obtain rfl : _ = false := hr.symm.trans (et (ip h32) (et (ip h33) (et (ip h34) (et (ip h35) (iN h36)))))
 exact ⟨rfl, H40⟩
 refine Sz (dF h35) (Sz (dF h35) (Sz (dF h35) (fw (.bool false) (Yl.pickF rfl (dF h35) rfl) (Mz rfl (Sz rfl (Sz rfl (Sz rfl (fw (.bool false) (Yl.pickF rfl rfl rfl) (Mz rfl (Sz rfl (Sz rfl (Sz rfl (Sz rfl (fw (.bool false) (Yl.pickF rfl rfl rfl) (An rfl (rt (rs ?_)))))))))))))))))
 have H41 := H23.pk []
 obtain rfl : _ = false := hr.symm.trans (et (ip h32) (et (ip h33) (et (ip h34) (iN h35))))
 exact ⟨rfl, H41⟩
 refine Sz (dF h34) (Sz (dF h34) (Sz (dF h34) (fw (.bool false) (Yl.pickF rfl (dF h34) rfl) (Mz rfl (Sz rfl (Sz rfl (Sz rfl (fw (.bool false) (Yl.pickF rfl rfl rfl) (Mz rfl (Sz rfl (Sz rfl (Sz rfl (fw (.bool false) (Yl.pickF rfl rfl rfl) (Mz rfl (Sz rfl (Sz rfl (Sz rfl (Sz rfl (fw (.bool false) (Yl.pickF rfl rfl rfl) (An rfl (rt (rs ?_))))))))))))))))))))))
 have H42 := H23.pk []
 obtain rfl : _ = false := hr.symm.trans (et (ip h32) (et (ip h33) (iN h34)))
 exact ⟨rfl, H42⟩
 refine Sz (dF h33) (Sz (dF h33) (Sz (dF h33) (fw (.bool false) (Yl.pickF rfl (dF h33) rfl) (Mz rfl (Sz rfl (Sz rfl (Sz rfl (fw (.bool false) (Yl.pickF rfl rfl rfl) (Mz rfl (Sz rfl (Sz rfl (Sz rfl (fw (.bool false) (Yl.pickF rfl rfl rfl) (Mz rfl (Sz rfl (Sz rfl (Sz rfl (fw (.bool false) (Yl.pickF rfl rfl rfl) (Mz rfl (Sz rfl (Sz rfl (Sz rfl (Sz rfl (fw (.bool false) (Yl.pickF rfl rfl rfl) (An rfl (rt (rs ?_)))))))))))))))))))))))))))
 have H43 := H23.pk []
 obtain rfl : _ = false := hr.symm.trans (et (ip h32) (iN h33))
 exact ⟨rfl, H43⟩
 refine Sz (dF h32) (Sz (dF h32) (fw (.bool false) (Yl.pickF rfl (dF h32) rfl) (Mz rfl (Sz rfl (Sz rfl (Sz rfl (fw (.bool false) (Yl.pickF rfl rfl rfl) (Mz rfl (Sz rfl (Sz rfl (Sz rfl (fw (.bool false) (Yl.pickF rfl rfl rfl) (Mz rfl (Sz rfl (Sz rfl (Sz rfl (fw (.bool false) (Yl.pickF rfl rfl rfl) (Mz rfl (Sz rfl (Sz rfl (Sz rfl (fw (.bool false) (Yl.pickF rfl rfl rfl) (Mz rfl (Sz rfl (Sz rfl (Sz rfl (Sz rfl (fw (.bool false) (Yl.pickF rfl rfl rfl) (An rfl (rt (rs ?_)))))))))))))))))))))))))))))))
 have H44 := H23.pk []
 obtain rfl : _ = false := hr.symm.trans (iN h32)
 exact ⟨rfl, H44⟩
structure RD where
 xB : Sv UInt8
 xE : Int
def RD.cells (x : RD) : List Value := [.slice x.xB.A x.xB.ls.length x.xB.c, .int .i64 x.xE]
instance : Bk RD := ⟨fun x _ => bk x.xB + (bk x.xE + (0))⟩
theorem RD.len : ∀ x, (RD.cells x).length = 2 := fun _ => rfl
theorem RD.one : ∀ x, ∀ u ∈ RD.cells x, u.oneCell' = true := fun x u hu => by
 simp only [RD.cells, List.mem_cons, List.not_mem_nil, or_false] at hu
 rcases hu with rfl | rfl <;> rfl
def RD.Ok (w : World) (x : RD) : Prop := (SvOk w 1 1 eB (fun _ => True) x.xB) ∧ ((-9223372036854775808) ≤ x.xE ∧ x.xE ≤ 9223372036854775807)
instance : Inhabited RD := ⟨⟨default, default⟩⟩
structure RT where
 xB : Ll UInt8
 xE : Int
instance : Inhabited RT := ⟨⟨default, default⟩⟩
def RD.abs (x : RD) : RT := ⟨⟨x.xB.ls⟩, x.xE⟩
def RD.own (x : RD) : List HP := [row x.xB.A x.xB.ls.length x.xB.c (List.flatMap eB x.xB.ls) 5 1]
theorem El141 : Elem Tryz.prog 141 9 1 16 := elem_of (z := .string ⟨List.toArray ([])⟩) Tryz.underlying141 (by kernel_rfl) rfl (by decide)
structure ReaderD where
 xrest : Sv UInt8
 xerrno : Int
def ReaderD.cells (x : ReaderD) : List Value := [.slice x.xrest.A x.xrest.ls.length x.xrest.c, .int .i64 x.xerrno]
instance : Bk ReaderD := ⟨fun x _ => bk x.xrest + (bk x.xerrno + (0))⟩
theorem ReaderD.len : ∀ x, (ReaderD.cells x).length = 2 := fun _ => rfl
theorem ReaderD.one : ∀ x, ∀ u ∈ ReaderD.cells x, u.oneCell' = true := fun x u hu => by
 simp only [ReaderD.cells, List.mem_cons, List.not_mem_nil, or_false] at hu
 rcases hu with rfl | rfl <;> rfl
def ReaderD.Ok (w : World) (x : ReaderD) : Prop := (SvOk w 1 1 eB (fun _ => True) x.xrest) ∧ ((-9223372036854775808) ≤ x.xerrno ∧ x.xerrno ≤ 9223372036854775807)
instance : Inhabited ReaderD := ⟨⟨default, default⟩⟩
structure ReaderT where
 xrest : Ll UInt8
 xerrno : Int
instance : Inhabited ReaderT := ⟨⟨default, default⟩⟩
def ReaderD.abs (x : ReaderD) : ReaderT := ⟨⟨x.xrest.ls⟩, x.xerrno⟩
def ReaderD.own (x : ReaderD) : List HP := [row x.xrest.A x.xrest.ls.length x.xrest.c (List.flatMap eB x.xrest.ls) 5 1]
theorem El148 : Elem Tryz.prog 148 124 1 8 := elem_of (z := .pointer none) Tryz.underlying148 (by kernel_rfl) rfl (by decide)
end Go.Proofs.YtccjclalngabhaaGreat
