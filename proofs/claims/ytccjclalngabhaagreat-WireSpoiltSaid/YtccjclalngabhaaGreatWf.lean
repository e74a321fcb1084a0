/-
 wire: messages of bytes.
-/
import Derived.Test.YtccjclalngabhaaGreatWe
namespace Go.Proofs.YtccjclalngabhaaGreat
open Go.RowKit
set_option linter.unusedVariables false
set_option linter.unusedSectionVars false
set_option linter.unusedSimpArgs false
def reader_Times_api_Op_L0 (p1 : Int) : Nat → List OpD → Nat → List UInt8 → Int → (List OpD) × (List UInt8) × Int
  | 0, l34, k35, l38, z39 => default
  | q40 + 1, l34, k35, l38, z39 => if ((k35 : Nat) : Int) < p1 then if z39 = 0 then bnd (wire_readOp (ReaderT.mk (Ll.mk l38) z39)) fun yr64 => reader_Times_api_Op_L0 p1 q40 (l34 ++ [yr64.1]) (k35 + 1) yr64.2.xrest.ls yr64.2.xerrno else (l34, l38, z39) else (l34, l38, z39)
def reader_Times_api_Op (p0 : ReaderT) (p1 : Int) : (List OpD) × ReaderT :=
 bnd (bnd (reader_Times_api_Op_L0 p1 ((Int.toNat p1 - 0) + 1) ([]) 0 p0.xrest.ls p0.xerrno) fun sLrJjL => (sLrJjL.1, sLrJjL.2.1, sLrJjL.2.2)) fun sJrJ => (sJrJ.1, ReaderT.mk (Ll.mk sJrJ.2.1) sJrJ.2.2)
set_option maxRecDepth 100000 in
theorem reader_Times_api_Op_ok (w : World) (D : Nat → Prop) (g0 : Nat) (p0 : ReaderT) (A0x0 : Option Addr) (c0x0 : Nat) (p1 : Int) (r0 : List OpD) (r1 : ReaderT) (H : Own w D w [blk g0 [.slice A0x0 p0.xrest.ls.length c0x0, .int .i64 p0.xerrno] 120]) (hx0x0 : Ro w D fun w' => Rds w' 1 A0x0 p0.xrest.ls.length (List.flatMap eB p0.xrest.ls)) (hb0x0 : p0.xrest.ls.length ≤ c0x0 ∧ p0.xrest.ls.length ≤ 9223372036854775807) (hh0 : p1 ≤ 1000) (hr : reader_Times_api_Op p0 p1 = (r0, r1)) :
    Calls Tryz.prog 110 #[.pointer (some ⟨g0, 0, none⟩), .int .i64 p1, .func (.func 83) #[] #[]] w (Ret fun v w' => ∃ (B0 : Option Addr) (b0 : Nat) (B1ox0 : Option Addr) (b1ox0 : Nat), v = .slice B0 r0.length b0 ∧ Own w D w' [row B0 r0.length b0 (List.flatMap OpD.cells r0) 64 6, blk g0 [.slice B1ox0 r1.xrest.ls.length b1ox0, .int .i64 r1.xerrno] 120] ∧ (SubS 1 A0x0 c0x0 p0.xrest.ls B1ox0 b1ox0 r1.xrest.ls) ∧ (r0.length ≤ 1000)) := by
 refine Calls.body (args := [.pointer (some ⟨g0, 0, none⟩), .int .i64 p1, .func (.func 83) #[] #[]]) Tryz.func110 rfl rfl rfl ?_
 show Wp _ _ _ [(0, .pointer (some ⟨g0, 0, none⟩)), (1, .int .i64 p1), (2, .func (.func 83) #[] #[])] _ _
 refine sr (Ar rfl (An rfl (Wp.seq (sr (An rfl ?_)))))
 obtain ⟨I28, hI29⟩ : ∃ q : ((Option Addr) × Nat × (List OpD) × (Option Addr) × Nat × (List UInt8) × Int) → World → Prop, q = fun (i : (Option Addr) × Nat × (List OpD) × (Option Addr) × Nat × (List UInt8) × Int) w' => Own w D w' [blk g0 [.slice i.2.2.2.1 i.2.2.2.2.2.1.length i.2.2.2.2.1, .int .i64 i.2.2.2.2.2.2] 120, row i.1 i.2.2.1.length i.2.1 (List.flatMap OpD.cells i.2.2.1) 64 6] ∧ (SubS 1 A0x0 c0x0 p0.xrest.ls i.2.2.2.1 i.2.2.2.2.1 i.2.2.2.2.2.1 ∧ 0 ≤ i.2.2.1.length ∧ i.2.2.2.2.2.1.length ≤ p0.xrest.ls.length ∧ i.2.2.2.2.2.1.length ≤ p0.xrest.ls.length + 1 ∧ i.2.2.1.length ≤ 1000 ∧ (bnd (reader_Times_api_Op_L0 p1 ((Int.toNat p1 - 0) + 1) ([]) 0 p0.xrest.ls p0.xerrno) fun sLrJjL => (sLrJjL.1, sLrJjL.2.1, sLrJjL.2.2)) = (i.2.2.1, i.2.2.2.2.2.1, i.2.2.2.2.2.2)) := ⟨_, rfl⟩
 have dm30 : ∀ {A21 : Option Addr} {c22 : Nat} {l23 : List OpD} {A24 : Option Addr} {c25 : Nat} {l26 : List UInt8} {z27 : Int} {w' : World}, I28 (A21, c22, l23, A24, c25, l26, z27) w' ↔ Own w D w' [blk g0 [.slice A24 l26.length c25, .int .i64 z27] 120, row A21 l23.length c22 (List.flatMap OpD.cells l23) 64 6] ∧ SubS 1 A0x0 c0x0 p0.xrest.ls A24 c25 l26 ∧ 0 ≤ l23.length ∧ l26.length ≤ p0.xrest.ls.length ∧ l26.length ≤ p0.xrest.ls.length + 1 ∧ l23.length ≤ 1000 ∧ (bnd (reader_Times_api_Op_L0 p1 ((Int.toNat p1 - 0) + 1) ([]) 0 p0.xrest.ls p0.xerrno) fun sLrJjL => (sLrJjL.1, sLrJjL.2.1, sLrJjL.2.2)) = (l23, l26, z27) := by intros; subst hI29; exact Iff.rfl
 refine Wp.joinT (fun i : (Option Addr) × Nat × (List OpD) × (Option Addr) × Nat × (List UInt8) × Int => [(7, .slice i.1 i.2.2.1.length i.2.1), (6, .slice none 0 0)]) I28 ?_ ?_
 refine bo ?_
 have H31 : Own w D w [row none 0 0 (List.flatMap OpD.cells ([])) 64 6, blk g0 [.slice A0x0 p0.xrest.ls.length c0x0, .int .i64 p0.xerrno] 120] := H.free (row_nil 64 6)
 have H42 := H31.pk [1, 0]
 obtain ⟨I46, hI47⟩ : ∃ q : ((Option Addr) × Nat × (List OpD) × Nat × (Option Addr) × Nat × (List UInt8) × Int × Nat) → World → Prop, q = fun (i : (Option Addr) × Nat × (List OpD) × Nat × (Option Addr) × Nat × (List UInt8) × Int × Nat) w' => Own w D w' [blk g0 [.slice i.2.2.2.2.1 i.2.2.2.2.2.2.1.length i.2.2.2.2.2.1, .int .i64 i.2.2.2.2.2.2.2.1] 120, row i.1 i.2.2.1.length i.2.1 (List.flatMap OpD.cells i.2.2.1) 64 6] ∧ (SubS 1 A0x0 c0x0 p0.xrest.ls i.2.2.2.2.1 i.2.2.2.2.2.1 i.2.2.2.2.2.2.1 ∧ i.2.2.1.length ≤ i.2.2.2.1 ∧ (i.2.2.2.1 = 0 ∨ ((i.2.2.2.1 : Nat) : Int) ≤ p1) ∧ Int.toNat p1 - i.2.2.2.1 < i.2.2.2.2.2.2.2.2 ∧ reader_Times_api_Op_L0 p1 ((Int.toNat p1 - 0) + 1) ([]) 0 p0.xrest.ls p0.xerrno = reader_Times_api_Op_L0 p1 i.2.2.2.2.2.2.2.2 i.2.2.1 i.2.2.2.1 i.2.2.2.2.2.2.1 i.2.2.2.2.2.2.2.1) := ⟨_, rfl⟩
 have dm48 : ∀ {A32 : Option Addr} {c33 : Nat} {l34 : List OpD} {k35 : Nat} {A36 : Option Addr} {c37 : Nat} {l38 : List UInt8} {z39 : Int} {f41 : Nat} {w' : World}, I46 (A32, c33, l34, k35, A36, c37, l38, z39, f41) w' ↔ Own w D w' [blk g0 [.slice A36 l38.length c37, .int .i64 z39] 120, row A32 l34.length c33 (List.flatMap OpD.cells l34) 64 6] ∧ SubS 1 A0x0 c0x0 p0.xrest.ls A36 c37 l38 ∧ l34.length ≤ k35 ∧ (k35 = 0 ∨ ((k35 : Nat) : Int) ≤ p1) ∧ Int.toNat p1 - k35 < f41 ∧ reader_Times_api_Op_L0 p1 ((Int.toNat p1 - 0) + 1) ([]) 0 p0.xrest.ls p0.xerrno = reader_Times_api_Op_L0 p1 f41 l34 k35 l38 z39 := by intros; subst hI47; exact Iff.rfl
 refine Wp.loop (fun i : (Option Addr) × Nat × (List OpD) × Nat × (Option Addr) × Nat × (List UInt8) × Int × Nat => [(7, .slice i.1 i.2.2.1.length i.2.1), (8, .int .i64 ((i.2.2.2.1 : Nat) : Int)), (6, .slice none 0 0), (0, .pointer (some ⟨g0, 0, none⟩)), (1, .int .i64 p1), (2, .func (.func 83) #[] #[])]) I46 (fun i => i.2.2.2.2.2.2.2.2) (none, 0, [], 0, A0x0, c0x0, p0.xrest.ls, p0.xerrno, (Int.toNat p1 - 0) + 1) ⟨rfl, rfl, rfl, rfl, rfl, rfl, trivial⟩ (dm48.2 ⟨H42, (show SubS 1 A0x0 c0x0 p0.xrest.ls A0x0 c0x0 p0.xrest.ls ∧ 0 ≤ 0 ∧ (0 = 0 ∨ ((0 : Nat) : Int) ≤ p1) ∧ Int.toNat p1 - 0 < ((Int.toNat p1 - 0) + 1) ∧ reader_Times_api_Op_L0 p1 ((Int.toNat p1 - 0) + 1) ([]) 0 p0.xrest.ls p0.xerrno = reader_Times_api_Op_L0 p1 ((Int.toNat p1 - 0) + 1) ([]) 0 p0.xrest.ls p0.xerrno from ⟨by exact (SubS.refl (by omega)), by omega, by omega, by omega, rfl⟩)⟩) ?_
 rintro ⟨A32, c33, l34, k35, A36, c37, l38, z39, f41⟩ w43 hf45
 show Wp _ _ _ [(7, .slice A32 l34.length c33), (8, .int .i64 ((k35 : Nat) : Int)), (6, .slice none 0 0), (0, .pointer (some ⟨g0, 0, none⟩)), (1, .int .i64 p1), (2, .func (.func 83) #[] #[])] _ _
 obtain ⟨H44, hi50, hi51, hi52, hi53, hq49⟩ := dm48.1 hf45
 have hz54 := (hi50).le
 obtain ⟨f55, hf56⟩ : ∃ q, f41 = q + 1 := ⟨f41 - 1, by omega⟩
 subst hf56
 refine Wp.seq (sr (Mz rfl (Mz rfl (Kz (.bool (decide (((k35 : Nat) : Int) < p1))) (Mz rfl ?_)))))
 by_cases h57 : ((k35 : Nat) : Int) < p1
 refine gw (.pointer (some ⟨g0, 0, none⟩)) (dT h57) (Yl.move rfl) (Gz (.pointer (some ⟨g0, 0, none⟩)) (dT h57) (Gz (.pointer (some ⟨g0, 1, none⟩)) (dT h57) (Gl (.int .i64 z39) (dT h57) H44 0 Tryz.isAgg32 (Gz (.bool (decide (z39 = 0))) (dT h57) (fw (.bool (decide (z39 = 0))) (Yl.pickT rfl (dT h57) rfl) (nt ?_))))))
 by_cases h58 : z39 = 0
 refine jT (dT h58) (sk (Wp.seq (bo (Wp.region (Mz rfl (Mz rfl (Mz rfl ?_)))))))
 obtain ⟨⟨r64, r65⟩, hr66⟩ : ∃ q : OpD × ReaderT, wire_readOp (ReaderT.mk (Ll.mk l38) z39) = q := ⟨_, rfl⟩
 obtain ⟨D59, HP60, ro61, bk62, rr63⟩ := Own.enter1 H44
 refine WL.do rfl (Do.callV Tryz.call83 rfl rfl (wire_readOp_ok _ _ g0 (ReaderT.mk (Ll.mk l38) z39) A36 c37 r64 r65 HP60 (fun w9 h9 => SubS.rds eB_len (by decide) hi50 ((ro61 _ hx0x0) w9 h9)) (show l38.length ≤ c37 ∧ l38.length ≤ 9223372036854775807 from by omega) hr66) ?_)
 rintro _ w67 ⟨A70, c71, rfl, HQ68, hs72⟩
 have H69 := bk62 _ _ HQ68
 replace hs72 : SubS 1 A36 c37 l38 A70 c71 r65.xrest.ls := hs72
 have hz73 := (hs72).le
 refine nrw (OpD.cells r64) 64 6 1 H69 ?_
 intro A74 w75 H76
 replace H76 := Own.reh (y := row A74 1 1 (List.flatMap OpD.cells ([r64])) 64 6) rfl H76
 have H77 := H76.pk [2, 0, 1]
 refine WL.do rfl (Do.appendW (k := l34.length) (m := 1) (El25) H77 rfl rfl (src_of Tryz.underlying25 (H77.rds (i := 1) rfl) (flat_one OpD.one ([r64]))) rfl (by omega) (s := List.length (l34 ++ [r64])) (by first | omega | (simp only [List.length_append, List.length_cons, List.length_nil] <;> omega)) (List.flatMap_append).symm ?_)
 intro A78 c79 w80 H81
 have hl82 : List.length (l34 ++ [r64]) = l34.length + 1 := by simp only [List.length_append, List.length_cons, List.length_nil]
 refine Az rfl (WL.nil (bN (Fin.then (Wp.region (Mz rfl (fw (.int .i64 ((k35 + 1 : Nat) : Int)) (Yl.int (e := IntKind.i64.wrap (((k35 : Nat) : Int) + 1)) yk (by rw [IntWalk.i64_in _ (by omega)]; omega)) (Az rfl (WL.nil ?_))))))))
 have H83 := H81.pk [2, 0]
 exact Fin.round (A78, c79, (l34 ++ [r64]), k35 + 1, A70, c71, r65.xrest.ls, r65.xerrno, f55) ⟨rfl, rfl, rfl, rfl, rfl, rfl, trivial⟩ (dm48.2 ⟨H83, by exact (SubS.trans hi50 hs72), by omega, by omega, by omega, et (hq49) (et (ip h57) (et (ip h58) (bnd_of hr66)))⟩) (by show f55 < f55 + 1; omega)
 refine jF (dF h58) (Wp.exit (Fin.thenX (Fin.thenX (Fin.blockX ?_))))
 have H84 := H44.pk [0, 1]
 exact Fin.join (A32, c33, l34, A36, c37, l38, z39) ⟨rfl, rfl, trivial⟩ (dm30.2 ⟨H84, by exact hi50, by omega, by omega, by omega, by omega, bnd_of (et (hq49) (et (ip h57) (iN h58)))⟩)
 refine Sz (dF h57) (Sz (dF h57) (Sz (dF h57) (Sz (dF h57) (Sz (dF h57) (fw (.bool false) (Yl.pickF rfl (dF h57) rfl) (nt (jf (Wp.exit (Fin.thenX (Fin.thenX (Fin.blockX ?_)))))))))))
 have H85 := H44.pk [0, 1]
 exact Fin.join (A32, c33, l34, A36, c37, l38, z39) ⟨rfl, rfl, trivial⟩ (dm30.2 ⟨H85, by exact hi50, by omega, by omega, by omega, by omega, bnd_of (et (hq49) (iN h57))⟩)
 rintro ⟨A21, c22, l23, A24, c25, l26, z27⟩ w86 hf88
 show Wp _ _ _ [(7, .slice A21 l23.length c22), (6, .slice none 0 0)] _ _
 obtain ⟨H87, hi90, hi91, hi92, hi93, hi94, hj89⟩ := dm30.1 hf88
 have hz95 := (hi90).le
 refine sr (Mz rfl (An rfl (rt (rs ?_))))
 have H96 := H87.pk [1, 0]
 have e : reader_Times_api_Op p0 p1 = (l23, ReaderT.mk (Ll.mk l26) z27) := bnd_of hj89
 obtain ⟨rfl, rfl⟩ := pj2 (e.symm.trans hr)
 exact ⟨A21, c22, A24, c25, rfl, H96, hi90, (by omega)⟩
def reader_List_api_Op (p0 : ReaderT) (p1 : Nat) : (List OpD) × ReaderT :=
 bnd (reader_Reader_Num p0 p1) fun yr26 => bnd (reader_Times_api_Op yr26.2 ((yr26.1 : Nat) : Int)) fun yr42 => (yr42.1, yr42.2)
set_option maxRecDepth 100000 in
theorem reader_List_api_Op_ok (w : World) (D : Nat → Prop) (g0 : Nat) (p0 : ReaderT) (A0x0 : Option Addr) (c0x0 : Nat) (p1 : Nat) (r0 : List OpD) (r1 : ReaderT) (H : Own w D w [blk g0 [.slice A0x0 p0.xrest.ls.length c0x0, .int .i64 p0.xerrno] 120]) (hx0x0 : Ro w D fun w' => Rds w' 1 A0x0 p0.xrest.ls.length (List.flatMap eB p0.xrest.ls)) (hb0x0 : p0.xrest.ls.length ≤ c0x0 ∧ p0.xrest.ls.length ≤ 9223372036854775807) (hh0 : p1 ≤ 1000) (hr : reader_List_api_Op p0 p1 = (r0, r1)) :
    Calls Tryz.prog 82 #[.pointer (some ⟨g0, 0, none⟩), .int .u64 ((p1 : Nat) : Int), .func (.func 83) #[] #[]] w (Ret fun v w' => ∃ (B0 : Option Addr) (b0 : Nat) (B1ox0 : Option Addr) (b1ox0 : Nat), v = .slice B0 r0.length b0 ∧ Own w D w' [row B0 r0.length b0 (List.flatMap OpD.cells r0) 64 6, blk g0 [.slice B1ox0 r1.xrest.ls.length b1ox0, .int .i64 r1.xerrno] 120] ∧ (SubS 1 A0x0 c0x0 p0.xrest.ls B1ox0 b1ox0 r1.xrest.ls) ∧ (r0.length ≤ 1000)) := by
 refine Calls.body (args := [.pointer (some ⟨g0, 0, none⟩), .int .u64 ((p1 : Nat) : Int), .func (.func 83) #[] #[]]) Tryz.func82 rfl rfl rfl ?_
 show Wp _ _ _ [(0, .pointer (some ⟨g0, 0, none⟩)), (1, .int .u64 ((p1 : Nat) : Int)), (2, .func (.func 83) #[] #[])] _ _
 refine sr (Ar rfl (Mz rfl (Mz rfl (Mz rfl ?_))))
 obtain ⟨⟨r26, r27⟩, hr28⟩ : ∃ q : Nat × ReaderT, reader_Reader_Num p0 p1 = q := ⟨_, rfl⟩
 obtain ⟨D21, HP22, ro23, bk24, rr25⟩ := Own.enter1 H
 refine cl Tryz.call79 (reader_Reader_Num_ok _ _ g0 p0 A0x0 c0x0 p1 r26 r27 HP22 (ro23 _ hx0x0) (show p0.xrest.ls.length ≤ c0x0 ∧ p0.xrest.ls.length ≤ 9223372036854775807 from by omega) hr28) ?_
 rintro _ w29 ⟨A32, c33, rfl, HQ30, hs34, hk35⟩
 have H31 := bk24 _ _ HQ30
 replace hs34 : SubS 1 A0x0 c0x0 p0.xrest.ls A32 c33 r27.xrest.ls := hs34
 have hz36 := (hs34).le
 replace hk35 : r26 ≤ p1 := hk35
 refine fw (.int .i64 ((r26 : Nat) : Int)) (Yl.int (e := IntKind.i64.wrap ((r26 : Nat) : Int)) yk (IntWalk.i64_in _ (by omega))) (Mz rfl ?_)
 obtain ⟨⟨r42, r43⟩, hr44⟩ : ∃ q : (List OpD) × ReaderT, reader_Times_api_Op r27 ((r26 : Nat) : Int) = q := ⟨_, rfl⟩
 obtain ⟨D37, HP38, ro39, bk40, rr41⟩ := Own.enter1 H31
 refine cl Tryz.call110 (reader_Times_api_Op_ok _ _ g0 r27 A32 c33 ((r26 : Nat) : Int) r42 r43 HP38 (fun w9 h9 => SubS.rds eB_len (by decide) hs34 ((ro39 _ hx0x0) w9 h9)) (show r27.xrest.ls.length ≤ c33 ∧ r27.xrest.ls.length ≤ 9223372036854775807 from by omega) (by omega) hr44) ?_
 rintro _ w45 ⟨A48, c49, A50, c51, rfl, HQ46, hs52, hk53⟩
 have H47 := bk40 _ _ HQ46
 replace hs52 : SubS 1 A32 c33 r27.xrest.ls A50 c51 r43.xrest.ls := hs52
 have hz54 := (hs52).le
 have hb55 := H47.rowC (i := 0) rfl
 replace hk53 : r42.length ≤ 1000 := hk53
 refine An rfl (rt (rs ?_))
 have H56 := H47.pk [0, 1]
 have e : reader_List_api_Op p0 p1 = (r42, r43) := et (bnd_of hr28) (bnd_of hr44)
 obtain ⟨rfl, rfl⟩ := pj2 (e.symm.trans hr)
 exact ⟨A48, c49, A50, c51, rfl, H56, (SubS.trans hs34 hs52), (by omega)⟩
def reader_Times_api_Result_L0 (p1 : Int) : Nat → List ResultT → Nat → List UInt8 → Int → (List ResultT) × (List UInt8) × Int
  | 0, l36, k38, l41, z42 => default
  | q43 + 1, l36, k38, l41, z42 => if ((k38 : Nat) : Int) < p1 then if z42 = 0 then bnd (wire_readResult (ReaderT.mk (Ll.mk l41) z42)) fun yr69 => reader_Times_api_Result_L0 p1 q43 (l36 ++ [yr69.1]) (k38 + 1) yr69.2.xrest.ls yr69.2.xerrno else (l36, l41, z42) else (l36, l41, z42)
def reader_Times_api_Result (p0 : ReaderT) (p1 : Int) : (List ResultT) × ReaderT :=
 bnd (bnd (reader_Times_api_Result_L0 p1 ((Int.toNat p1 - 0) + 1) ([]) 0 p0.xrest.ls p0.xerrno) fun sLrJjL => (sLrJjL.1, sLrJjL.2.1, sLrJjL.2.2)) fun sJrJ => (sJrJ.1, ReaderT.mk (Ll.mk sJrJ.2.1) sJrJ.2.2)
set_option maxRecDepth 100000 in
theorem reader_Times_api_Result_ok (w : World) (D : Nat → Prop) (g0 : Nat) (p0 : ReaderT) (A0x0 : Option Addr) (c0x0 : Nat) (p1 : Int) (r0 : List ResultT) (r1 : ReaderT) (H : Own w D w [blk g0 [.slice A0x0 p0.xrest.ls.length c0x0, .int .i64 p0.xerrno] 120]) (hx0x0 : Ro w D fun w' => Rds w' 1 A0x0 p0.xrest.ls.length (List.flatMap eB p0.xrest.ls)) (hb0x0 : p0.xrest.ls.length ≤ c0x0 ∧ p0.xrest.ls.length ≤ 9223372036854775807) (hh0 : p1 ≤ 1000) (hr : reader_Times_api_Result p0 p1 = (r0, r1)) :
    Calls Tryz.prog 111 #[.pointer (some ⟨g0, 0, none⟩), .int .i64 p1, .func (.func 85) #[] #[]] w (Ret fun v w' => ∃ (B0 : Option Addr) (b0 : Nat) (e0 : List ResultD) (B1ox0 : Option Addr) (b1ox0 : Nat), v = .slice B0 r0.length b0 ∧ Own w D w' [row B0 r0.length b0 (List.flatMap ResultD.cells e0) 84 3, sepL (List.flatMap ResultD.own e0), blk g0 [.slice B1ox0 r1.xrest.ls.length b1ox0, .int .i64 r1.xerrno] 120] ∧ (List.map ResultD.abs e0 = r0) ∧ (SubS 1 A0x0 c0x0 p0.xrest.ls B1ox0 b1ox0 r1.xrest.ls) ∧ (r0.length ≤ 1000)) := by
 refine Calls.body (args := [.pointer (some ⟨g0, 0, none⟩), .int .i64 p1, .func (.func 85) #[] #[]]) Tryz.func111 rfl rfl rfl ?_
 show Wp _ _ _ [(0, .pointer (some ⟨g0, 0, none⟩)), (1, .int .i64 p1), (2, .func (.func 85) #[] #[])] _ _
 refine sr (Ar rfl (An rfl (Wp.seq (sr (An rfl ?_)))))
 obtain ⟨I29, hI30⟩ : ∃ q : ((Option Addr) × Nat × (List ResultD) × (List ResultT) × (Option Addr) × Nat × (List UInt8) × Int) → World → Prop, q = fun (i : (Option Addr) × Nat × (List ResultD) × (List ResultT) × (Option Addr) × Nat × (List UInt8) × Int) w' => Own w D w' [blk g0 [.slice i.2.2.2.2.1 i.2.2.2.2.2.2.1.length i.2.2.2.2.2.1, .int .i64 i.2.2.2.2.2.2.2] 120, row i.1 i.2.2.2.1.length i.2.1 (List.flatMap ResultD.cells i.2.2.1) 84 3, sepL (List.flatMap ResultD.own i.2.2.1)] ∧ (List.map ResultD.abs i.2.2.1 = i.2.2.2.1 ∧ SubS 1 A0x0 c0x0 p0.xrest.ls i.2.2.2.2.1 i.2.2.2.2.2.1 i.2.2.2.2.2.2.1 ∧ 0 ≤ i.2.2.2.1.length ∧ i.2.2.2.2.2.2.1.length ≤ p0.xrest.ls.length ∧ i.2.2.2.2.2.2.1.length ≤ p0.xrest.ls.length + 1 ∧ i.2.2.2.1.length ≤ 1000 ∧ (bnd (reader_Times_api_Result_L0 p1 ((Int.toNat p1 - 0) + 1) ([]) 0 p0.xrest.ls p0.xerrno) fun sLrJjL => (sLrJjL.1, sLrJjL.2.1, sLrJjL.2.2)) = (i.2.2.2.1, i.2.2.2.2.2.2.1, i.2.2.2.2.2.2.2)) := ⟨_, rfl⟩
 have dm31 : ∀ {A21 : Option Addr} {c22 : Nat} {d24 : List ResultD} {l23 : List ResultT} {A25 : Option Addr} {c26 : Nat} {l27 : List UInt8} {z28 : Int} {w' : World}, I29 (A21, c22, d24, l23, A25, c26, l27, z28) w' ↔ Own w D w' [blk g0 [.slice A25 l27.length c26, .int .i64 z28] 120, row A21 l23.length c22 (List.flatMap ResultD.cells d24) 84 3, sepL (List.flatMap ResultD.own d24)] ∧ List.map ResultD.abs d24 = l23 ∧ SubS 1 A0x0 c0x0 p0.xrest.ls A25 c26 l27 ∧ 0 ≤ l23.length ∧ l27.length ≤ p0.xrest.ls.length ∧ l27.length ≤ p0.xrest.ls.length + 1 ∧ l23.length ≤ 1000 ∧ (bnd (reader_Times_api_Result_L0 p1 ((Int.toNat p1 - 0) + 1) ([]) 0 p0.xrest.ls p0.xerrno) fun sLrJjL => (sLrJjL.1, sLrJjL.2.1, sLrJjL.2.2)) = (l23, l27, z28) := by intros; subst hI30; exact Iff.rfl
 refine Wp.joinT (fun i : (Option Addr) × Nat × (List ResultD) × (List ResultT) × (Option Addr) × Nat × (List UInt8) × Int => [(7, .slice i.1 i.2.2.2.1.length i.2.1), (6, .slice none 0 0)]) I29 ?_ ?_
 refine bo ?_
 have H32 : Own w D w [sepL (List.flatMap ResultD.own ([])), blk g0 [.slice A0x0 p0.xrest.ls.length c0x0, .int .i64 p0.xerrno] 120] := H.sepNil
 have H33 : Own w D w [row none 0 0 (List.flatMap ResultD.cells ([])) 84 3, sepL (List.flatMap ResultD.own ([])), blk g0 [.slice A0x0 p0.xrest.ls.length c0x0, .int .i64 p0.xerrno] 120] := H32.free (row_nil 84 3)
 have H45 := H33.pk [2, 0, 1]
 obtain ⟨I49, hI50⟩ : ∃ q : ((Option Addr) × Nat × (List ResultD) × (List ResultT) × Nat × (Option Addr) × Nat × (List UInt8) × Int × Nat) → World → Prop, q = fun (i : (Option Addr) × Nat × (List ResultD) × (List ResultT) × Nat × (Option Addr) × Nat × (List UInt8) × Int × Nat) w' => Own w D w' [blk g0 [.slice i.2.2.2.2.2.1 i.2.2.2.2.2.2.2.1.length i.2.2.2.2.2.2.1, .int .i64 i.2.2.2.2.2.2.2.2.1] 120, row i.1 i.2.2.2.1.length i.2.1 (List.flatMap ResultD.cells i.2.2.1) 84 3, sepL (List.flatMap ResultD.own i.2.2.1)] ∧ (List.map ResultD.abs i.2.2.1 = i.2.2.2.1 ∧ SubS 1 A0x0 c0x0 p0.xrest.ls i.2.2.2.2.2.1 i.2.2.2.2.2.2.1 i.2.2.2.2.2.2.2.1 ∧ i.2.2.2.1.length ≤ i.2.2.2.2.1 ∧ (i.2.2.2.2.1 = 0 ∨ ((i.2.2.2.2.1 : Nat) : Int) ≤ p1) ∧ Int.toNat p1 - i.2.2.2.2.1 < i.2.2.2.2.2.2.2.2.2 ∧ reader_Times_api_Result_L0 p1 ((Int.toNat p1 - 0) + 1) ([]) 0 p0.xrest.ls p0.xerrno = reader_Times_api_Result_L0 p1 i.2.2.2.2.2.2.2.2.2 i.2.2.2.1 i.2.2.2.2.1 i.2.2.2.2.2.2.2.1 i.2.2.2.2.2.2.2.2.1) := ⟨_, rfl⟩
 have dm51 : ∀ {A34 : Option Addr} {c35 : Nat} {d37 : List ResultD} {l36 : List ResultT} {k38 : Nat} {A39 : Option Addr} {c40 : Nat} {l41 : List UInt8} {z42 : Int} {f44 : Nat} {w' : World}, I49 (A34, c35, d37, l36, k38, A39, c40, l41, z42, f44) w' ↔ Own w D w' [blk g0 [.slice A39 l41.length c40, .int .i64 z42] 120, row A34 l36.length c35 (List.flatMap ResultD.cells d37) 84 3, sepL (List.flatMap ResultD.own d37)] ∧ List.map ResultD.abs d37 = l36 ∧ SubS 1 A0x0 c0x0 p0.xrest.ls A39 c40 l41 ∧ l36.length ≤ k38 ∧ (k38 = 0 ∨ ((k38 : Nat) : Int) ≤ p1) ∧ Int.toNat p1 - k38 < f44 ∧ reader_Times_api_Result_L0 p1 ((Int.toNat p1 - 0) + 1) ([]) 0 p0.xrest.ls p0.xerrno = reader_Times_api_Result_L0 p1 f44 l36 k38 l41 z42 := by intros; subst hI50; exact Iff.rfl
 refine Wp.loop (fun i : (Option Addr) × Nat × (List ResultD) × (List ResultT) × Nat × (Option Addr) × Nat × (List UInt8) × Int × Nat => [(7, .slice i.1 i.2.2.2.1.length i.2.1), (8, .int .i64 ((i.2.2.2.2.1 : Nat) : Int)), (6, .slice none 0 0), (0, .pointer (some ⟨g0, 0, none⟩)), (1, .int .i64 p1), (2, .func (.func 85) #[] #[])]) I49 (fun i => i.2.2.2.2.2.2.2.2.2) (none, 0, [], [], 0, A0x0, c0x0, p0.xrest.ls, p0.xerrno, (Int.toNat p1 - 0) + 1) ⟨rfl, rfl, rfl, rfl, rfl, rfl, trivial⟩ (dm51.2 ⟨H45, (show List.map ResultD.abs ([]) = ([]) ∧ SubS 1 A0x0 c0x0 p0.xrest.ls A0x0 c0x0 p0.xrest.ls ∧ 0 ≤ 0 ∧ (0 = 0 ∨ ((0 : Nat) : Int) ≤ p1) ∧ Int.toNat p1 - 0 < ((Int.toNat p1 - 0) + 1) ∧ reader_Times_api_Result_L0 p1 ((Int.toNat p1 - 0) + 1) ([]) 0 p0.xrest.ls p0.xerrno = reader_Times_api_Result_L0 p1 ((Int.toNat p1 - 0) + 1) ([]) 0 p0.xrest.ls p0.xerrno from ⟨by exact rfl, by exact (SubS.refl (by omega)), by omega, by omega, by omega, rfl⟩)⟩) ?_
 rintro ⟨A34, c35, d37, l36, k38, A39, c40, l41, z42, f44⟩ w46 hf48
 show Wp _ _ _ [(7, .slice A34 l36.length c35), (8, .int .i64 ((k38 : Nat) : Int)), (6, .slice none 0 0), (0, .pointer (some ⟨g0, 0, none⟩)), (1, .int .i64 p1), (2, .func (.func 85) #[] #[])] _ _
 obtain ⟨H47, hi53, hi54, hi55, hi56, hi57, hq52⟩ := dm51.1 hf48
 have hl58 := abs_len hi53
 have hz59 := (hi54).le
 obtain ⟨f60, hf61⟩ : ∃ q, f44 = q + 1 := ⟨f44 - 1, by omega⟩
 subst hf61
 refine Wp.seq (sr (Mz rfl (Mz rfl (Kz (.bool (decide (((k38 : Nat) : Int) < p1))) (Mz rfl ?_)))))
 by_cases h62 : ((k38 : Nat) : Int) < p1
 refine gw (.pointer (some ⟨g0, 0, none⟩)) (dT h62) (Yl.move rfl) (Gz (.pointer (some ⟨g0, 0, none⟩)) (dT h62) (Gz (.pointer (some ⟨g0, 1, none⟩)) (dT h62) (Gl (.int .i64 z42) (dT h62) H47 0 Tryz.isAgg32 (Gz (.bool (decide (z42 = 0))) (dT h62) (fw (.bool (decide (z42 = 0))) (Yl.pickT rfl (dT h62) rfl) (nt ?_))))))
 by_cases h63 : z42 = 0
 refine jT (dT h63) (sk (Wp.seq (bo (Wp.region (Mz rfl (Mz rfl (Mz rfl ?_)))))))
 obtain ⟨⟨r69, r70⟩, hr71⟩ : ∃ q : ResultT × ReaderT, wire_readResult (ReaderT.mk (Ll.mk l41) z42) = q := ⟨_, rfl⟩
 obtain ⟨D64, HP65, ro66, bk67, rr68⟩ := Own.enter1 H47
 refine WL.do rfl (Do.callV Tryz.call85 rfl rfl (wire_readResult_ok _ _ g0 (ReaderT.mk (Ll.mk l41) z42) A39 c40 r69 r70 HP65 (fun w9 h9 => SubS.rds eB_len (by decide) hi54 ((ro66 _ hx0x0) w9 h9)) (show l41.length ≤ c40 ∧ l41.length ≤ 9223372036854775807 from by omega) hr71) ?_)
 rintro _ w72 ⟨A75, c76, A77, c78, rfl, HQ73, hs79⟩
 have H74 := bk67 _ _ HQ73
 replace hs79 : SubS 1 A39 c40 l41 A77 c78 r70.xrest.ls := hs79
 have hz80 := (hs79).le
 have hb81 := H74.rowC (i := 0) rfl
 refine nrw [.bool r69.xFound, .string ⟨List.toArray r69.xValue⟩, .slice A75 r69.xPairs.ls.length c76] 84 3 1 H74 ?_
 intro A82 w83 H84
 replace H84 := Own.reh (y := row A82 1 1 (List.flatMap ResultD.cells ([(ResultD.mk r69.xFound r69.xValue (Sv.mk A75 c76 r69.xPairs.ls))])) 84 3) rfl H84
 have H85 := H84.pk [3, 4, 1, 0, 2]
 refine WL.do rfl (Do.appendW (k := l36.length) (m := 1) (El26) H85 rfl rfl (src_of Tryz.underlying26 (H85.rds (i := 3) rfl) (flat_one ResultD.one ([(ResultD.mk r69.xFound r69.xValue (Sv.mk A75 c76 r69.xPairs.ls))]))) rfl (by omega) (s := List.length (l36 ++ [r69])) (by first | omega | (simp only [List.length_append, List.length_cons, List.length_nil] <;> omega)) (List.flatMap_append).symm ?_)
 intro A86 c87 w88 H89
 have H90 := H89.pk [1, 2, 0, 3, 4]
 have H91 : Own w D w88 [sepL (List.flatMap ResultD.own (d37 ++ [(ResultD.mk r69.xFound r69.xValue (Sv.mk A75 c76 r69.xPairs.ls))])), row A86 (List.length (l36 ++ [r69])) c87 (List.flatMap ResultD.cells (d37 ++ [(ResultD.mk r69.xFound r69.xValue (Sv.mk A75 c76 r69.xPairs.ls))])) 84 3, row A82 1 1 (List.flatMap ResultD.cells ([(ResultD.mk r69.xFound r69.xValue (Sv.mk A75 c76 r69.xPairs.ls))])) 84 3, blk g0 [.slice A77 r70.xrest.ls.length c78, .int .i64 r70.xerrno] 120] := H90.sepAdd (L2 := [row A75 r69.xPairs.ls.length c76 (List.flatMap PairD.cells r69.xPairs.ls) 86 2]) (List.flatMap_append (f := ResultD.own) (xs := d37) (ys := [(ResultD.mk r69.xFound r69.xValue (Sv.mk A75 c76 r69.xPairs.ls))])).symm
 have hl92 : List.length (l36 ++ [r69]) = l36.length + 1 := by simp only [List.length_append, List.length_cons, List.length_nil]
 have hl93 := abs_len (abs_app (es := [(ResultD.mk r69.xFound r69.xValue (Sv.mk A75 c76 r69.xPairs.ls))]) (ms := [r69]) hi53 rfl)
 refine Az rfl (WL.nil (bN (Fin.then (Wp.region (Mz rfl (fw (.int .i64 ((k38 + 1 : Nat) : Int)) (Yl.int (e := IntKind.i64.wrap (((k38 : Nat) : Int) + 1)) yk (by rw [IntWalk.i64_in _ (by omega)]; omega)) (Az rfl (WL.nil ?_))))))))
 have H94 := H91.pk [3, 1, 0]
 exact Fin.round (A86, c87, (d37 ++ [(ResultD.mk r69.xFound r69.xValue (Sv.mk A75 c76 r69.xPairs.ls))]), (l36 ++ [r69]), k38 + 1, A77, c78, r70.xrest.ls, r70.xerrno, f60) ⟨rfl, rfl, rfl, rfl, rfl, rfl, trivial⟩ (dm51.2 ⟨H94, by exact (abs_app (es := [(ResultD.mk r69.xFound r69.xValue (Sv.mk A75 c76 r69.xPairs.ls))]) (ms := [r69]) hi53 rfl), by exact (SubS.trans hi54 hs79), by omega, by omega, by omega, et (hq52) (et (ip h62) (et (ip h63) (bnd_of hr71)))⟩) (by show f60 < f60 + 1; omega)
 refine jF (dF h63) (Wp.exit (Fin.thenX (Fin.thenX (Fin.blockX ?_))))
 have H95 := H47.pk [0, 1, 2]
 exact Fin.join (A34, c35, d37, l36, A39, c40, l41, z42) ⟨rfl, rfl, trivial⟩ (dm31.2 ⟨H95, by exact hi53, by exact hi54, by omega, by omega, by omega, by omega, bnd_of (et (hq52) (et (ip h62) (iN h63)))⟩)
 refine Sz (dF h62) (Sz (dF h62) (Sz (dF h62) (Sz (dF h62) (Sz (dF h62) (fw (.bool false) (Yl.pickF rfl (dF h62) rfl) (nt (jf (Wp.exit (Fin.thenX (Fin.thenX (Fin.blockX ?_)))))))))))
 have H96 := H47.pk [0, 1, 2]
 exact Fin.join (A34, c35, d37, l36, A39, c40, l41, z42) ⟨rfl, rfl, trivial⟩ (dm31.2 ⟨H96, by exact hi53, by exact hi54, by omega, by omega, by omega, by omega, bnd_of (et (hq52) (iN h62))⟩)
 rintro ⟨A21, c22, d24, l23, A25, c26, l27, z28⟩ w97 hf99
 show Wp _ _ _ [(7, .slice A21 l23.length c22), (6, .slice none 0 0)] _ _
 obtain ⟨H98, hi101, hi102, hi103, hi104, hi105, hi106, hj100⟩ := dm31.1 hf99
 have hl107 := abs_len hi101
 have hz108 := (hi102).le
 refine sr (Mz rfl (An rfl (rt (rs ?_))))
 have H109 := H98.pk [1, 2, 0]
 have e : reader_Times_api_Result p0 p1 = (l23, ReaderT.mk (Ll.mk l27) z28) := bnd_of hj100
 obtain ⟨rfl, rfl⟩ := pj2 (e.symm.trans hr)
 exact ⟨A21, c22, d24, A25, c26, rfl, H109, hi101, hi102, (by omega)⟩
def reader_List_api_Result (p0 : ReaderT) (p1 : Nat) : (List ResultT) × ReaderT :=
 bnd (reader_Reader_Num p0 p1) fun yr26 => bnd (reader_Times_api_Result yr26.2 ((yr26.1 : Nat) : Int)) fun yr42 => (yr42.1, yr42.2)
set_option maxRecDepth 100000 in
theorem reader_List_api_Result_ok (w : World) (D : Nat → Prop) (g0 : Nat) (p0 : ReaderT) (A0x0 : Option Addr) (c0x0 : Nat) (p1 : Nat) (r0 : List ResultT) (r1 : ReaderT) (H : Own w D w [blk g0 [.slice A0x0 p0.xrest.ls.length c0x0, .int .i64 p0.xerrno] 120]) (hx0x0 : Ro w D fun w' => Rds w' 1 A0x0 p0.xrest.ls.length (List.flatMap eB p0.xrest.ls)) (hb0x0 : p0.xrest.ls.length ≤ c0x0 ∧ p0.xrest.ls.length ≤ 9223372036854775807) (hh0 : p1 ≤ 1000) (hr : reader_List_api_Result p0 p1 = (r0, r1)) :
    Calls Tryz.prog 84 #[.pointer (some ⟨g0, 0, none⟩), .int .u64 ((p1 : Nat) : Int), .func (.func 85) #[] #[]] w (Ret fun v w' => ∃ (B0 : Option Addr) (b0 : Nat) (e0 : List ResultD) (B1ox0 : Option Addr) (b1ox0 : Nat), v = .slice B0 r0.length b0 ∧ Own w D w' [row B0 r0.length b0 (List.flatMap ResultD.cells e0) 84 3, sepL (List.flatMap ResultD.own e0), blk g0 [.slice B1ox0 r1.xrest.ls.length b1ox0, .int .i64 r1.xerrno] 120] ∧ (List.map ResultD.abs e0 = r0) ∧ (SubS 1 A0x0 c0x0 p0.xrest.ls B1ox0 b1ox0 r1.xrest.ls) ∧ (r0.length ≤ 1000)) := by
 refine Calls.body (args := [.pointer (some ⟨g0, 0, none⟩), .int .u64 ((p1 : Nat) : Int), .func (.func 85) #[] #[]]) Tryz.func84 rfl rfl rfl ?_
 show Wp _ _ _ [(0, .pointer (some ⟨g0, 0, none⟩)), (1, .int .u64 ((p1 : Nat) : Int)), (2, .func (.func 85) #[] #[])] _ _
 refine sr (Ar rfl (Mz rfl (Mz rfl (Mz rfl ?_))))
 obtain ⟨⟨r26, r27⟩, hr28⟩ : ∃ q : Nat × ReaderT, reader_Reader_Num p0 p1 = q := ⟨_, rfl⟩
 obtain ⟨D21, HP22, ro23, bk24, rr25⟩ := Own.enter1 H
 refine cl Tryz.call79 (reader_Reader_Num_ok _ _ g0 p0 A0x0 c0x0 p1 r26 r27 HP22 (ro23 _ hx0x0) (show p0.xrest.ls.length ≤ c0x0 ∧ p0.xrest.ls.length ≤ 9223372036854775807 from by omega) hr28) ?_
 rintro _ w29 ⟨A32, c33, rfl, HQ30, hs34, hk35⟩
 have H31 := bk24 _ _ HQ30
 replace hs34 : SubS 1 A0x0 c0x0 p0.xrest.ls A32 c33 r27.xrest.ls := hs34
 have hz36 := (hs34).le
 replace hk35 : r26 ≤ p1 := hk35
 refine fw (.int .i64 ((r26 : Nat) : Int)) (Yl.int (e := IntKind.i64.wrap ((r26 : Nat) : Int)) yk (IntWalk.i64_in _ (by omega))) (Mz rfl ?_)
 obtain ⟨⟨r42, r43⟩, hr44⟩ : ∃ q : (List ResultT) × ReaderT, reader_Times_api_Result r27 ((r26 : Nat) : Int) = q := ⟨_, rfl⟩
 obtain ⟨D37, HP38, ro39, bk40, rr41⟩ := Own.enter1 H31
 refine cl Tryz.call111 (reader_Times_api_Result_ok _ _ g0 r27 A32 c33 ((r26 : Nat) : Int) r42 r43 HP38 (fun w9 h9 => SubS.rds eB_len (by decide) hs34 ((ro39 _ hx0x0) w9 h9)) (show r27.xrest.ls.length ≤ c33 ∧ r27.xrest.ls.length ≤ 9223372036854775807 from by omega) (by omega) hr44) ?_
 rintro _ w45 ⟨A48, c49, d50, A52, c53, rfl, HQ46, hd51, hs54, hk55⟩
 have H47 := bk40 _ _ HQ46
 replace hs54 : SubS 1 A32 c33 r27.xrest.ls A52 c53 r43.xrest.ls := hs54
 have hz56 := (hs54).le
 have hl57 := abs_len hd51
 have hb58 := H47.rowC (i := 0) rfl
 replace hk55 : r42.length ≤ 1000 := hk55
 refine An rfl (rt (rs ?_))
 have H59 := H47.pk [0, 1, 2]
 have e : reader_List_api_Result p0 p1 = (r42, r43) := et (bnd_of hr28) (bnd_of hr44)
 obtain ⟨rfl, rfl⟩ := pj2 (e.symm.trans hr)
 exact ⟨A48, c49, d50, A52, c53, rfl, H59, hd51, (SubS.trans hs34 hs54), (by omega)⟩
def reader_Times_api_Owner_L0 (p1 : Int) : Nat → List OwnerD → Nat → List UInt8 → Int → (List OwnerD) × (List UInt8) × Int
  | 0, l34, k35, l38, z39 => default
  | q40 + 1, l34, k35, l38, z39 => if ((k35 : Nat) : Int) < p1 then if z39 = 0 then bnd (wire_readOwner (ReaderT.mk (Ll.mk l38) z39)) fun yr64 => reader_Times_api_Owner_L0 p1 q40 (l34 ++ [yr64.1]) (k35 + 1) yr64.2.xrest.ls yr64.2.xerrno else (l34, l38, z39) else (l34, l38, z39)
def reader_Times_api_Owner (p0 : ReaderT) (p1 : Int) : (List OwnerD) × ReaderT :=
 bnd (bnd (reader_Times_api_Owner_L0 p1 ((Int.toNat p1 - 0) + 1) ([]) 0 p0.xrest.ls p0.xerrno) fun sLrJjL => (sLrJjL.1, sLrJjL.2.1, sLrJjL.2.2)) fun sJrJ => (sJrJ.1, ReaderT.mk (Ll.mk sJrJ.2.1) sJrJ.2.2)
set_option maxRecDepth 100000 in
theorem reader_Times_api_Owner_ok (w : World) (D : Nat → Prop) (g0 : Nat) (p0 : ReaderT) (A0x0 : Option Addr) (c0x0 : Nat) (p1 : Int) (r0 : List OwnerD) (r1 : ReaderT) (H : Own w D w [blk g0 [.slice A0x0 p0.xrest.ls.length c0x0, .int .i64 p0.xerrno] 120]) (hx0x0 : Ro w D fun w' => Rds w' 1 A0x0 p0.xrest.ls.length (List.flatMap eB p0.xrest.ls)) (hb0x0 : p0.xrest.ls.length ≤ c0x0 ∧ p0.xrest.ls.length ≤ 9223372036854775807) (hh0 : p1 ≤ 1000) (hr : reader_Times_api_Owner p0 p1 = (r0, r1)) :
    Calls Tryz.prog 114 #[.pointer (some ⟨g0, 0, none⟩), .int .i64 p1, .func (.func 87) #[] #[]] w (Ret fun v w' => ∃ (B0 : Option Addr) (b0 : Nat) (B1ox0 : Option Addr) (b1ox0 : Nat), v = .slice B0 r0.length b0 ∧ Own w D w' [row B0 r0.length b0 (List.flatMap OwnerD.cells r0) 88 2, blk g0 [.slice B1ox0 r1.xrest.ls.length b1ox0, .int .i64 r1.xerrno] 120] ∧ (SubS 1 A0x0 c0x0 p0.xrest.ls B1ox0 b1ox0 r1.xrest.ls) ∧ (r0.length ≤ 1000)) := by
 refine Calls.body (args := [.pointer (some ⟨g0, 0, none⟩), .int .i64 p1, .func (.func 87) #[] #[]]) Tryz.func114 rfl rfl rfl ?_
 show Wp _ _ _ [(0, .pointer (some ⟨g0, 0, none⟩)), (1, .int .i64 p1), (2, .func (.func 87) #[] #[])] _ _
 refine sr (Ar rfl (An rfl (Wp.seq (sr (An rfl ?_)))))
 obtain ⟨I28, hI29⟩ : ∃ q : ((Option Addr) × Nat × (List OwnerD) × (Option Addr) × Nat × (List UInt8) × Int) → World → Prop, q = fun (i : (Option Addr) × Nat × (List OwnerD) × (Option Addr) × Nat × (List UInt8) × Int) w' => Own w D w' [blk g0 [.slice i.2.2.2.1 i.2.2.2.2.2.1.length i.2.2.2.2.1, .int .i64 i.2.2.2.2.2.2] 120, row i.1 i.2.2.1.length i.2.1 (List.flatMap OwnerD.cells i.2.2.1) 88 2] ∧ (SubS 1 A0x0 c0x0 p0.xrest.ls i.2.2.2.1 i.2.2.2.2.1 i.2.2.2.2.2.1 ∧ 0 ≤ i.2.2.1.length ∧ i.2.2.2.2.2.1.length ≤ p0.xrest.ls.length ∧ i.2.2.2.2.2.1.length ≤ p0.xrest.ls.length + 1 ∧ i.2.2.1.length ≤ 1000 ∧ (bnd (reader_Times_api_Owner_L0 p1 ((Int.toNat p1 - 0) + 1) ([]) 0 p0.xrest.ls p0.xerrno) fun sLrJjL => (sLrJjL.1, sLrJjL.2.1, sLrJjL.2.2)) = (i.2.2.1, i.2.2.2.2.2.1, i.2.2.2.2.2.2)) := ⟨_, rfl⟩
 have dm30 : ∀ {A21 : Option Addr} {c22 : Nat} {l23 : List OwnerD} {A24 : Option Addr} {c25 : Nat} {l26 : List UInt8} {z27 : Int} {w' : World}, I28 (A21, c22, l23, A24, c25, l26, z27) w' ↔ Own w D w' [blk g0 [.slice A24 l26.length c25, .int .i64 z27] 120, row A21 l23.length c22 (List.flatMap OwnerD.cells l23) 88 2] ∧ SubS 1 A0x0 c0x0 p0.xrest.ls A24 c25 l26 ∧ 0 ≤ l23.length ∧ l26.length ≤ p0.xrest.ls.length ∧ l26.length ≤ p0.xrest.ls.length + 1 ∧ l23.length ≤ 1000 ∧ (bnd (reader_Times_api_Owner_L0 p1 ((Int.toNat p1 - 0) + 1) ([]) 0 p0.xrest.ls p0.xerrno) fun sLrJjL => (sLrJjL.1, sLrJjL.2.1, sLrJjL.2.2)) = (l23, l26, z27) := by intros; subst hI29; exact Iff.rfl
 refine Wp.joinT (fun i : (Option Addr) × Nat × (List OwnerD) × (Option Addr) × Nat × (List UInt8) × Int => [(7, .slice i.1 i.2.2.1.length i.2.1), (6, .slice none 0 0)]) I28 ?_ ?_
 refine bo ?_
 have H31 : Own w D w [row none 0 0 (List.flatMap OwnerD.cells ([])) 88 2, blk g0 [.slice A0x0 p0.xrest.ls.length c0x0, .int .i64 p0.xerrno] 120] := H.free (row_nil 88 2)
 have H42 := H31.pk [1, 0]
 obtain ⟨I46, hI47⟩ : ∃ q : ((Option Addr) × Nat × (List OwnerD) × Nat × (Option Addr) × Nat × (List UInt8) × Int × Nat) → World → Prop, q = fun (i : (Option Addr) × Nat × (List OwnerD) × Nat × (Option Addr) × Nat × (List UInt8) × Int × Nat) w' => Own w D w' [blk g0 [.slice i.2.2.2.2.1 i.2.2.2.2.2.2.1.length i.2.2.2.2.2.1, .int .i64 i.2.2.2.2.2.2.2.1] 120, row i.1 i.2.2.1.length i.2.1 (List.flatMap OwnerD.cells i.2.2.1) 88 2] ∧ (SubS 1 A0x0 c0x0 p0.xrest.ls i.2.2.2.2.1 i.2.2.2.2.2.1 i.2.2.2.2.2.2.1 ∧ i.2.2.1.length ≤ i.2.2.2.1 ∧ (i.2.2.2.1 = 0 ∨ ((i.2.2.2.1 : Nat) : Int) ≤ p1) ∧ Int.toNat p1 - i.2.2.2.1 < i.2.2.2.2.2.2.2.2 ∧ reader_Times_api_Owner_L0 p1 ((Int.toNat p1 - 0) + 1) ([]) 0 p0.xrest.ls p0.xerrno = reader_Times_api_Owner_L0 p1 i.2.2.2.2.2.2.2.2 i.2.2.1 i.2.2.2.1 i.2.2.2.2.2.2.1 i.2.2.2.2.2.2.2.1) := ⟨_, rfl⟩
 have dm48 : ∀ {A32 : Option Addr} {c33 : Nat} {l34 : List OwnerD} {k35 : Nat} {A36 : Option Addr} {c37 : Nat} {l38 : List UInt8} {z39 : Int} {f41 : Nat} {w' : World}, I46 (A32, c33, l34, k35, A36, c37, l38, z39, f41) w' ↔ Own w D w' [blk g0 [.slice A36 l38.length c37, .int .i64 z39] 120, row A32 l34.length c33 (List.flatMap OwnerD.cells l34) 88 2] ∧ SubS 1 A0x0 c0x0 p0.xrest.ls A36 c37 l38 ∧ l34.length ≤ k35 ∧ (k35 = 0 ∨ ((k35 : Nat) : Int) ≤ p1) ∧ Int.toNat p1 - k35 < f41 ∧ reader_Times_api_Owner_L0 p1 ((Int.toNat p1 - 0) + 1) ([]) 0 p0.xrest.ls p0.xerrno = reader_Times_api_Owner_L0 p1 f41 l34 k35 l38 z39 := by intros; subst hI47; exact Iff.rfl
 refine Wp.loop (fun i : (Option Addr) × Nat × (List OwnerD) × Nat × (Option Addr) × Nat × (List UInt8) × Int × Nat => [(7, .slice i.1 i.2.2.1.length i.2.1), (8, .int .i64 ((i.2.2.2.1 : Nat) : Int)), (6, .slice none 0 0), (0, .pointer (some ⟨g0, 0, none⟩)), (1, .int .i64 p1), (2, .func (.func 87) #[] #[])]) I46 (fun i => i.2.2.2.2.2.2.2.2) (none, 0, [], 0, A0x0, c0x0, p0.xrest.ls, p0.xerrno, (Int.toNat p1 - 0) + 1) ⟨rfl, rfl, rfl, rfl, rfl, rfl, trivial⟩ (dm48.2 ⟨H42, (show SubS 1 A0x0 c0x0 p0.xrest.ls A0x0 c0x0 p0.xrest.ls ∧ 0 ≤ 0 ∧ (0 = 0 ∨ ((0 : Nat) : Int) ≤ p1) ∧ Int.toNat p1 - 0 < ((Int.toNat p1 - 0) + 1) ∧ reader_Times_api_Owner_L0 p1 ((Int.toNat p1 - 0) + 1) ([]) 0 p0.xrest.ls p0.xerrno = reader_Times_api_Owner_L0 p1 ((Int.toNat p1 - 0) + 1) ([]) 0 p0.xrest.ls p0.xerrno from ⟨by exact (SubS.refl (by omega)), by omega, by omega, by omega, rfl⟩)⟩) ?_
 rintro ⟨A32, c33, l34, k35, A36, c37, l38, z39, f41⟩ w43 hf45
 show Wp _ _ _ [(7, .slice A32 l34.length c33), (8, .int .i64 ((k35 : Nat) : Int)), (6, .slice none 0 0), (0, .pointer (some ⟨g0, 0, none⟩)), (1, .int .i64 p1), (2, .func (.func 87) #[] #[])] _ _
 obtain ⟨H44, hi50, hi51, hi52, hi53, hq49⟩ := dm48.1 hf45
 have hz54 := (hi50).le
 obtain ⟨f55, hf56⟩ : ∃ q, f41 = q + 1 := ⟨f41 - 1, by omega⟩
 subst hf56
 refine Wp.seq (sr (Mz rfl (Mz rfl (Kz (.bool (decide (((k35 : Nat) : Int) < p1))) (Mz rfl ?_)))))
 by_cases h57 : ((k35 : Nat) : Int) < p1
 refine gw (.pointer (some ⟨g0, 0, none⟩)) (dT h57) (Yl.move rfl) (Gz (.pointer (some ⟨g0, 0, none⟩)) (dT h57) (Gz (.pointer (some ⟨g0, 1, none⟩)) (dT h57) (Gl (.int .i64 z39) (dT h57) H44 0 Tryz.isAgg32 (Gz (.bool (decide (z39 = 0))) (dT h57) (fw (.bool (decide (z39 = 0))) (Yl.pickT rfl (dT h57) rfl) (nt ?_))))))
 by_cases h58 : z39 = 0
 refine jT (dT h58) (sk (Wp.seq (bo (Wp.region (Mz rfl (Mz rfl (Mz rfl ?_)))))))
 obtain ⟨⟨r64, r65⟩, hr66⟩ : ∃ q : OwnerD × ReaderT, wire_readOwner (ReaderT.mk (Ll.mk l38) z39) = q := ⟨_, rfl⟩
 obtain ⟨D59, HP60, ro61, bk62, rr63⟩ := Own.enter1 H44
 refine WL.do rfl (Do.callV Tryz.call87 rfl rfl (wire_readOwner_ok _ _ g0 (ReaderT.mk (Ll.mk l38) z39) A36 c37 r64 r65 HP60 (fun w9 h9 => SubS.rds eB_len (by decide) hi50 ((ro61 _ hx0x0) w9 h9)) (show l38.length ≤ c37 ∧ l38.length ≤ 9223372036854775807 from by omega) hr66) ?_)
 rintro _ w67 ⟨A70, c71, rfl, HQ68, hs72⟩
 have H69 := bk62 _ _ HQ68
 replace hs72 : SubS 1 A36 c37 l38 A70 c71 r65.xrest.ls := hs72
 have hz73 := (hs72).le
 refine nrw (OwnerD.cells r64) 88 2 1 H69 ?_
 intro A74 w75 H76
 replace H76 := Own.reh (y := row A74 1 1 (List.flatMap OwnerD.cells ([r64])) 88 2) rfl H76
 have H77 := H76.pk [2, 0, 1]
 refine WL.do rfl (Do.appendW (k := l34.length) (m := 1) (El27) H77 rfl rfl (src_of Tryz.underlying27 (H77.rds (i := 1) rfl) (flat_one OwnerD.one ([r64]))) rfl (by omega) (s := List.length (l34 ++ [r64])) (by first | omega | (simp only [List.length_append, List.length_cons, List.length_nil] <;> omega)) (List.flatMap_append).symm ?_)
 intro A78 c79 w80 H81
 have hl82 : List.length (l34 ++ [r64]) = l34.length + 1 := by simp only [List.length_append, List.length_cons, List.length_nil]
 refine Az rfl (WL.nil (bN (Fin.then (Wp.region (Mz rfl (fw (.int .i64 ((k35 + 1 : Nat) : Int)) (Yl.int (e := IntKind.i64.wrap (((k35 : Nat) : Int) + 1)) yk (by rw [IntWalk.i64_in _ (by omega)]; omega)) (Az rfl (WL.nil ?_))))))))
 have H83 := H81.pk [2, 0]
 exact Fin.round (A78, c79, (l34 ++ [r64]), k35 + 1, A70, c71, r65.xrest.ls, r65.xerrno, f55) ⟨rfl, rfl, rfl, rfl, rfl, rfl, trivial⟩ (dm48.2 ⟨H83, by exact (SubS.trans hi50 hs72), by omega, by omega, by omega, et (hq49) (et (ip h57) (et (ip h58) (bnd_of hr66)))⟩) (by show f55 < f55 + 1; omega)
 refine jF (dF h58) (Wp.exit (Fin.thenX (Fin.thenX (Fin.blockX ?_))))
 have H84 := H44.pk [0, 1]
 exact Fin.join (A32, c33, l34, A36, c37, l38, z39) ⟨rfl, rfl, trivial⟩ (dm30.2 ⟨H84, by exact hi50, by omega, by omega, by omega, by omega, bnd_of (et (hq49) (et (ip h57) (iN h58)))⟩)
 refine Sz (dF h57) (Sz (dF h57) (Sz (dF h57) (Sz (dF h57) (Sz (dF h57) (fw (.bool false) (Yl.pickF rfl (dF h57) rfl) (nt (jf (Wp.exit (Fin.thenX (Fin.thenX (Fin.blockX ?_)))))))))))
 have H85 := H44.pk [0, 1]
 exact Fin.join (A32, c33, l34, A36, c37, l38, z39) ⟨rfl, rfl, trivial⟩ (dm30.2 ⟨H85, by exact hi50, by omega, by omega, by omega, by omega, bnd_of (et (hq49) (iN h57))⟩)
 rintro ⟨A21, c22, l23, A24, c25, l26, z27⟩ w86 hf88
 show Wp _ _ _ [(7, .slice A21 l23.length c22), (6, .slice none 0 0)] _ _
 obtain ⟨H87, hi90, hi91, hi92, hi93, hi94, hj89⟩ := dm30.1 hf88
 have hz95 := (hi90).le
 refine sr (Mz rfl (An rfl (rt (rs ?_))))
 have H96 := H87.pk [1, 0]
 have e : reader_Times_api_Owner p0 p1 = (l23, ReaderT.mk (Ll.mk l26) z27) := bnd_of hj89
 obtain ⟨rfl, rfl⟩ := pj2 (e.symm.trans hr)
 exact ⟨A21, c22, A24, c25, rfl, H96, hi90, (by omega)⟩
def reader_List_api_Owner (p0 : ReaderT) (p1 : Nat) : (List OwnerD) × ReaderT :=
 bnd (reader_Reader_Num p0 p1) fun yr26 => bnd (reader_Times_api_Owner yr26.2 ((yr26.1 : Nat) : Int)) fun yr42 => (yr42.1, yr42.2)
set_option maxRecDepth 100000 in
theorem reader_List_api_Owner_ok (w : World) (D : Nat → Prop) (g0 : Nat) (p0 : ReaderT) (A0x0 : Option Addr) (c0x0 : Nat) (p1 : Nat) (r0 : List OwnerD) (r1 : ReaderT) (H : Own w D w [blk g0 [.slice A0x0 p0.xrest.ls.length c0x0, .int .i64 p0.xerrno] 120]) (hx0x0 : Ro w D fun w' => Rds w' 1 A0x0 p0.xrest.ls.length (List.flatMap eB p0.xrest.ls)) (hb0x0 : p0.xrest.ls.length ≤ c0x0 ∧ p0.xrest.ls.length ≤ 9223372036854775807) (hh0 : p1 ≤ 1000) (hr : reader_List_api_Owner p0 p1 = (r0, r1)) :
    Calls Tryz.prog 86 #[.pointer (some ⟨g0, 0, none⟩), .int .u64 ((p1 : Nat) : Int), .func (.func 87) #[] #[]] w (Ret fun v w' => ∃ (B0 : Option Addr) (b0 : Nat) (B1ox0 : Option Addr) (b1ox0 : Nat), v = .slice B0 r0.length b0 ∧ Own w D w' [row B0 r0.length b0 (List.flatMap OwnerD.cells r0) 88 2, blk g0 [.slice B1ox0 r1.xrest.ls.length b1ox0, .int .i64 r1.xerrno] 120] ∧ (SubS 1 A0x0 c0x0 p0.xrest.ls B1ox0 b1ox0 r1.xrest.ls) ∧ (r0.length ≤ 1000)) := by
 refine Calls.body (args := [.pointer (some ⟨g0, 0, none⟩), .int .u64 ((p1 : Nat) : Int), .func (.func 87) #[] #[]]) Tryz.func86 rfl rfl rfl ?_
 show Wp _ _ _ [(0, .pointer (some ⟨g0, 0, none⟩)), (1, .int .u64 ((p1 : Nat) : Int)), (2, .func (.func 87) #[] #[])] _ _
 refine sr (Ar rfl (Mz rfl (Mz rfl (Mz rfl ?_))))
 obtain ⟨⟨r26, r27⟩, hr28⟩ : ∃ q : Nat × ReaderT, reader_Reader_Num p0 p1 = q := ⟨_, rfl⟩
 obtain ⟨D21, HP22, ro23, bk24, rr25⟩ := Own.enter1 H
 refine cl Tryz.call79 (reader_Reader_Num_ok _ _ g0 p0 A0x0 c0x0 p1 r26 r27 HP22 (ro23 _ hx0x0) (show p0.xrest.ls.length ≤ c0x0 ∧ p0.xrest.ls.length ≤ 9223372036854775807 from by omega) hr28) ?_
 rintro _ w29 ⟨A32, c33, rfl, HQ30, hs34, hk35⟩
 have H31 := bk24 _ _ HQ30
 replace hs34 : SubS 1 A0x0 c0x0 p0.xrest.ls A32 c33 r27.xrest.ls := hs34
 have hz36 := (hs34).le
 replace hk35 : r26 ≤ p1 := hk35
 refine fw (.int .i64 ((r26 : Nat) : Int)) (Yl.int (e := IntKind.i64.wrap ((r26 : Nat) : Int)) yk (IntWalk.i64_in _ (by omega))) (Mz rfl ?_)
 obtain ⟨⟨r42, r43⟩, hr44⟩ : ∃ q : (List OwnerD) × ReaderT, reader_Times_api_Owner r27 ((r26 : Nat) : Int) = q := ⟨_, rfl⟩
 obtain ⟨D37, HP38, ro39, bk40, rr41⟩ := Own.enter1 H31
 refine cl Tryz.call114 (reader_Times_api_Owner_ok _ _ g0 r27 A32 c33 ((r26 : Nat) : Int) r42 r43 HP38 (fun w9 h9 => SubS.rds eB_len (by decide) hs34 ((ro39 _ hx0x0) w9 h9)) (show r27.xrest.ls.length ≤ c33 ∧ r27.xrest.ls.length ≤ 9223372036854775807 from by omega) (by omega) hr44) ?_
 rintro _ w45 ⟨A48, c49, A50, c51, rfl, HQ46, hs52, hk53⟩
 have H47 := bk40 _ _ HQ46
 replace hs52 : SubS 1 A32 c33 r27.xrest.ls A50 c51 r43.xrest.ls := hs52
 have hz54 := (hs52).le
 have hb55 := H47.rowC (i := 0) rfl
 replace hk53 : r42.length ≤ 1000 := hk53
 refine An rfl (rt (rs ?_))
 have H56 := H47.pk [0, 1]
 have e : reader_List_api_Owner p0 p1 = (r42, r43) := et (bnd_of hr28) (bnd_of hr44)
 obtain ⟨rfl, rfl⟩ := pj2 (e.symm.trans hr)
 exact ⟨A48, c49, A50, c51, rfl, H56, (SubS.trans hs34 hs52), (by omega)⟩
def wire_read_L0 (p1 : MsgT) : List Int → List UInt8 → Int → Int → Int → Nat → Nat → Nat → Nat → Nat → Nat → Nat → Nat → Nat → Bool → List UInt8 → List UInt8 → List OpD → List ResultT → List OwnerD → (List UInt8) × Int × Int × Int × Nat × Nat × Nat × Nat × Nat × Nat × Nat × Nat × Nat × Bool × (List UInt8) × (List UInt8) × (List OpD) × (List ResultT) × (List OwnerD)
  | [], l24, z25, z26, z27, k28, k29, k30, k31, k32, k33, k34, k35, k36, b37, s38, s39, l42, l45, l49 => (l24, z25, z26, z27, k28, k29, k30, k31, k32, k33, k34, k35, k36, b37, s38, s39, l42, l45, l49)
  | x77 :: q50, l24, z25, z26, z27, k28, k29, k30, k31, k32, k33, k34, k35, k36, b37, s38, s39, l42, l45, l49 => if x77 = 0 then bnd (reader_Reader_Num (ReaderT.mk (Ll.mk l24) z25) 18446744073709551615) fun yr86 => wire_read_L0 p1 q50 yr86.2.xrest.ls yr86.2.xerrno z26 z27 yr86.1 k29 k30 k31 k32 k33 k34 k35 k36 b37 s38 s39 l42 l45 l49 else if x77 = 1 then bnd (reader_Reader_Num (ReaderT.mk (Ll.mk l24) z25) 18446744073709551615) fun yr107 => wire_read_L0 p1 q50 yr107.2.xrest.ls yr107.2.xerrno z26 z27 k28 yr107.1 k30 k31 k32 k33 k34 k35 k36 b37 s38 s39 l42 l45 l49 else if x77 = 4 then bnd (reader_Reader_Num (ReaderT.mk (Ll.mk l24) z25) 18446744073709551615) fun yr128 => wire_read_L0 p1 q50 yr128.2.xrest.ls yr128.2.xerrno z26 z27 k28 k29 yr128.1 k31 k32 k33 k34 k35 k36 b37 s38 s39 l42 l45 l49 else if x77 = 5 then bnd (reader_Reader_Num (ReaderT.mk (Ll.mk l24) z25) 18446744073709551615) fun yr149 => wire_read_L0 p1 q50 yr149.2.xrest.ls yr149.2.xerrno z26 z27 k28 k29 k30 yr149.1 k32 k33 k34 k35 k36 b37 s38 s39 l42 l45 l49 else if x77 = 6 then bnd (reader_Reader_Num (ReaderT.mk (Ll.mk l24) z25) 18446744073709551615) fun yr170 => wire_read_L0 p1 q50 yr170.2.xrest.ls yr170.2.xerrno z26 z27 k28 k29 k30 k31 k32 yr170.1 k34 k35 k36 b37 s38 s39 l42 l45 l49 else if x77 = 9 then bnd (reader_Reader_Num (ReaderT.mk (Ll.mk l24) z25) 18446744073709551615) fun yr191 => wire_read_L0 p1 q50 yr191.2.xrest.ls yr191.2.xerrno z26 z27 k28 k29 k30 k31 yr191.1 k33 k34 k35 k36 b37 s38 s39 l42 l45 l49 else if x77 = 10 then bnd (reader_Reader_Num (ReaderT.mk (Ll.mk l24) z25) 18446744073709551615) fun yr212 => wire_read_L0 p1 q50 yr212.2.xrest.ls yr212.2.xerrno z26 z27 k28 k29 k30 k31 k32 k33 yr212.1 k35 k36 b37 s38 s39 l42 l45 l49 else if x77 = 14 then bnd (reader_Reader_Num (ReaderT.mk (Ll.mk l24) z25) 18446744073709551615) fun yr233 => wire_read_L0 p1 q50 yr233.2.xrest.ls yr233.2.xerrno z26 z27 k28 k29 k30 k31 k32 k33 k34 yr233.1 k36 b37 s38 s39 l42 l45 l49 else if x77 = 15 then bnd (reader_Reader_Num (ReaderT.mk (Ll.mk l24) z25) 18446744073709551615) fun yr254 => wire_read_L0 p1 q50 yr254.2.xrest.ls yr254.2.xerrno z26 z27 k28 k29 k30 k31 k32 k33 k34 k35 yr254.1 b37 s38 s39 l42 l45 l49 else if x77 = 2 then bnd (reader_Reader_Octet (ReaderT.mk (Ll.mk l24) z25)) fun yr275 => wire_read_L0 p1 q50 yr275.2.xrest.ls yr275.2.xerrno ((yr275.1.toNat : Nat) : Int) z27 k28 k29 k30 k31 k32 k33 k34 k35 k36 b37 s38 s39 l42 l45 l49 else if x77 = 12 then bnd (reader_Reader_Octet (ReaderT.mk (Ll.mk l24) z25)) fun yr296 => wire_read_L0 p1 q50 yr296.2.xrest.ls yr296.2.xerrno z26 ((yr296.1.toNat : Nat) : Int) k28 k29 k30 k31 k32 k33 k34 k35 k36 b37 s38 s39 l42 l45 l49 else if x77 = 8 then bnd (wire_readTruth (ReaderT.mk (Ll.mk l24) z25)) fun yr317 => wire_read_L0 p1 q50 yr317.2.xrest.ls yr317.2.xerrno z26 z27 k28 k29 k30 k31 k32 k33 k34 k35 k36 yr317.1 s38 s39 l42 l45 l49 else if x77 = 13 then bnd (reader_Reader_Text (ReaderT.mk (Ll.mk l24) z25) 255) fun yr346 => bnd (reader_Reader_Text yr346.2 255) fun yr366 => wire_read_L0 p1 q50 yr366.2.xrest.ls yr366.2.xerrno z26 z27 k28 k29 k30 k31 k32 k33 k34 k35 k36 b37 yr346.1 yr366.1 l42 l45 l49 else if x77 = 7 then bnd (reader_List_api_Op (ReaderT.mk (Ll.mk l24) z25) 255) fun yr387 => wire_read_L0 p1 q50 yr387.2.xrest.ls yr387.2.xerrno z26 z27 k28 k29 k30 k31 k32 k33 k34 k35 k36 b37 s38 s39 yr387.1 l45 l49 else if x77 = 3 then bnd (reader_List_api_Result (ReaderT.mk (Ll.mk l24) z25) 255) fun yr411 => wire_read_L0 p1 q50 yr411.2.xrest.ls yr411.2.xerrno z26 z27 k28 k29 k30 k31 k32 k33 k34 k35 k36 b37 s38 s39 l42 yr411.1 l49 else if x77 = 11 then bnd (reader_List_api_Owner (ReaderT.mk (Ll.mk l24) z25) 255) fun yr438 => wire_read_L0 p1 q50 yr438.2.xrest.ls yr438.2.xerrno z26 z27 k28 k29 k30 k31 k32 k33 k34 k35 k36 b37 s38 s39 l42 l45 yr438.1 else wire_read_L0 p1 q50 l24 z25 z26 z27 k28 k29 k30 k31 k32 k33 k34 k35 k36 b37 s38 s39 l42 l45 l49
def wire_read (p0 : ReaderT) (p1 : MsgT) (l2 : List Int) : ReaderT × MsgT :=
 bnd (wire_read_L0 p1 l2 p0.xrest.ls p0.xerrno p1.xCode p1.xPeer p1.xReq p1.xBoot p1.xTxn p1.xLow p1.xVer p1.xEpoch p1.xMove p1.xAttempt p1.xN p1.xFlag p1.xRange.xLo p1.xRange.xHi p1.xOps.ls p1.xResults.ls p1.xOwners.ls) fun sLrL => (ReaderT.mk (Ll.mk sLrL.1) sLrL.2.1, MsgT.mk p1.xKind p1.xFrom p1.xTo p1.xClient sLrL.2.2.1 sLrL.2.2.2.1 sLrL.2.2.2.2.1 sLrL.2.2.2.2.2.1 sLrL.2.2.2.2.2.2.1 sLrL.2.2.2.2.2.2.2.1 sLrL.2.2.2.2.2.2.2.2.1 sLrL.2.2.2.2.2.2.2.2.2.1 sLrL.2.2.2.2.2.2.2.2.2.2.1 sLrL.2.2.2.2.2.2.2.2.2.2.2.1 sLrL.2.2.2.2.2.2.2.2.2.2.2.2.1 sLrL.2.2.2.2.2.2.2.2.2.2.2.2.2.1 (RangeD.mk sLrL.2.2.2.2.2.2.2.2.2.2.2.2.2.2.1 sLrL.2.2.2.2.2.2.2.2.2.2.2.2.2.2.2.1) (Ll.mk sLrL.2.2.2.2.2.2.2.2.2.2.2.2.2.2.2.2.1) (Ll.mk sLrL.2.2.2.2.2.2.2.2.2.2.2.2.2.2.2.2.2.1) (Ll.mk sLrL.2.2.2.2.2.2.2.2.2.2.2.2.2.2.2.2.2.2))
set_option maxRecDepth 100000 in
set_option maxHeartbeats 4000000 in
theorem wire_read_ok (w : World) (D : Nat → Prop) (g0 : Nat) (p0 : ReaderT) (A0x0 : Option Addr) (c0x0 : Nat) (g1 : Nat) (p1 : MsgT) (A1x0 : Option Addr) (c1x0 : Nat) (A1x1 : Option Addr) (c1x1 : Nat) (d1x1 : List ResultD) (A1x2 : Option Addr) (c1x2 : Nat) (A2 : Option Addr) (n2 c2 : Nat) (l2 : List Int) (r0 : ReaderT) (r1 : MsgT) (H : Own w D w [blk g0 [.slice A0x0 p0.xrest.ls.length c0x0, .int .i64 p0.xerrno] 120, blk g1 (MsgP p1 A1x0 c1x0 A1x1 c1x1 A1x2 c1x2) 29, row A1x0 p1.xOps.ls.length c1x0 (List.flatMap OpD.cells p1.xOps.ls) 64 6, row A1x1 p1.xResults.ls.length c1x1 (List.flatMap ResultD.cells d1x1) 84 3, sepL (List.flatMap ResultD.own d1x1), row A1x2 p1.xOwners.ls.length c1x2 (List.flatMap OwnerD.cells p1.xOwners.ls) 88 2]) (hx0x0 : Ro w D fun w' => Rds w' 1 A0x0 p0.xrest.ls.length (List.flatMap eB p0.xrest.ls)) (hb0x0 : p0.xrest.ls.length ≤ c0x0 ∧ p0.xrest.ls.length ≤ 9223372036854775807) (hd1x1 : List.map ResultD.abs d1x1 = p1.xResults.ls) (hx2 : Ro w D fun w' => Rds w' 1 A2 n2 (List.flatMap (eI .i64) l2)) (hn2 : n2 = l2.length) (hl2 : l2.length * 8 ≤ 211106232532992) (hh0 : p1.xOps.ls.length ≤ 1000 ∧ p1.xResults.ls.length ≤ 1000 ∧ p1.xOwners.ls.length ≤ 1000 ∧ p1.xReq ≤ 18446744073709551615 ∧ p1.xBoot ≤ 18446744073709551615 ∧ p1.xTxn ≤ 18446744073709551615 ∧ p1.xLow ≤ 18446744073709551615 ∧ p1.xVer ≤ 18446744073709551615 ∧ p1.xEpoch ≤ 18446744073709551615 ∧ p1.xMove ≤ 18446744073709551615 ∧ p1.xAttempt ≤ 18446744073709551615 ∧ p1.xN ≤ 18446744073709551615) (hr : wire_read p0 p1 l2 = (r0, r1)) :
    Calls Tryz.prog 41 #[.pointer (some ⟨g0, 0, none⟩), .pointer (some ⟨g1, 0, none⟩), .slice A2 n2 c2] w (Ret fun v w' => ∃ (B0ox0 : Option Addr) (b0ox0 : Nat) (B1ox0 : Option Addr) (b1ox0 : Nat) (B1ox1 : Option Addr) (b1ox1 : Nat) (e1ox1 : List ResultD) (B1ox2 : Option Addr) (b1ox2 : Nat), v = .tuple #[] ∧ Own w D w' [blk g0 [.slice B0ox0 r0.xrest.ls.length b0ox0, .int .i64 r0.xerrno] 120, blk g1 (MsgP r1 B1ox0 b1ox0 B1ox1 b1ox1 B1ox2 b1ox2) 29, row B1ox0 r1.xOps.ls.length b1ox0 (List.flatMap OpD.cells r1.xOps.ls) 64 6, row B1ox1 r1.xResults.ls.length b1ox1 (List.flatMap ResultD.cells e1ox1) 84 3, sepL (List.flatMap ResultD.own e1ox1), row B1ox2 r1.xOwners.ls.length b1ox2 (List.flatMap OwnerD.cells r1.xOwners.ls) 88 2] ∧ (SubS 1 A0x0 c0x0 p0.xrest.ls B0ox0 b0ox0 r0.xrest.ls) ∧ (List.map ResultD.abs e1ox1 = r1.xResults.ls) ∧ (r1.xOps.ls.length ≤ 1000 ∧ r1.xResults.ls.length ≤ 1000 ∧ r1.xOwners.ls.length ≤ 1000 ∧ r1.xReq ≤ 18446744073709551615 ∧ r1.xBoot ≤ 18446744073709551615 ∧ r1.xTxn ≤ 18446744073709551615 ∧ r1.xLow ≤ 18446744073709551615 ∧ r1.xVer ≤ 18446744073709551615 ∧ r1.xEpoch ≤ 18446744073709551615 ∧ r1.xMove ≤ 18446744073709551615 ∧ r1.xAttempt ≤ 18446744073709551615 ∧ r1.xN ≤ 18446744073709551615)) := by
 subst hn2
 have hdl1x1 := abs_len hd1x1
 have hc1x0 := H.rowC (i := 2) rfl
 have hc1x1 := H.rowC (i := 3) rfl
 have hc1x2 := H.rowC (i := 5) rfl
 refine Calls.body (args := [.pointer (some ⟨g0, 0, none⟩), .pointer (some ⟨g1, 0, none⟩), .slice A2 l2.length c2]) Tryz.func41 rfl rfl rfl ?_
 show Wp _ _ _ [(0, .pointer (some ⟨g0, 0, none⟩)), (1, .pointer (some ⟨g1, 0, none⟩)), (2, .slice A2 l2.length c2)] _ _
 refine sr (Mz rfl (Kz (.int .i64 ((l2.length : Nat) : Int)) (Mn rfl (bo ?_))))
 have H51 : Own w D w [blk g0 [.slice A0x0 p0.xrest.ls.length c0x0, .int .i64 p0.xerrno] 120, blk g1 (MsgP p1 A1x0 c1x0 A1x1 c1x1 A1x2 c1x2) 29, row A1x0 p1.xOps.ls.length c1x0 (List.flatMap OpD.cells p1.xOps.ls) 64 6, row A1x1 p1.xResults.ls.length c1x1 (List.flatMap ResultD.cells d1x1) 84 3, sepL (List.flatMap ResultD.own d1x1), row A1x2 p1.xOwners.ls.length c1x2 (List.flatMap OwnerD.cells p1.xOwners.ls) 88 2] := H.pk [0, 1, 2, 3, 4, 5]
 obtain ⟨I55, hI56⟩ : ∃ q : (Nat × (Option Addr) × Nat × (List UInt8) × Int × Int × Int × Nat × Nat × Nat × Nat × Nat × Nat × Nat × Nat × Nat × Bool × (List UInt8) × (List UInt8) × (Option Addr) × Nat × (List OpD) × (Option Addr) × Nat × (List ResultD) × (List ResultT) × (Option Addr) × Nat × (List OwnerD)) → World → Prop, q = fun (i : Nat × (Option Addr) × Nat × (List UInt8) × Int × Int × Int × Nat × Nat × Nat × Nat × Nat × Nat × Nat × Nat × Nat × Bool × (List UInt8) × (List UInt8) × (Option Addr) × Nat × (List OpD) × (Option Addr) × Nat × (List ResultD) × (List ResultT) × (Option Addr) × Nat × (List OwnerD)) w' => Own w D w' [blk g0 [.slice i.2.1 i.2.2.2.1.length i.2.2.1, .int .i64 i.2.2.2.2.1] 120, blk g1 (MsgC p1.xKind p1.xFrom p1.xTo p1.xClient i.2.2.2.2.2.1 i.2.2.2.2.2.2.1 i.2.2.2.2.2.2.2.1 i.2.2.2.2.2.2.2.2.1 i.2.2.2.2.2.2.2.2.2.1 i.2.2.2.2.2.2.2.2.2.2.1 i.2.2.2.2.2.2.2.2.2.2.2.1 i.2.2.2.2.2.2.2.2.2.2.2.2.1 i.2.2.2.2.2.2.2.2.2.2.2.2.2.1 i.2.2.2.2.2.2.2.2.2.2.2.2.2.2.1 i.2.2.2.2.2.2.2.2.2.2.2.2.2.2.2.1 i.2.2.2.2.2.2.2.2.2.2.2.2.2.2.2.2.1 i.2.2.2.2.2.2.2.2.2.2.2.2.2.2.2.2.2.1 i.2.2.2.2.2.2.2.2.2.2.2.2.2.2.2.2.2.2.1 i.2.2.2.2.2.2.2.2.2.2.2.2.2.2.2.2.2.2.2.1 i.2.2.2.2.2.2.2.2.2.2.2.2.2.2.2.2.2.2.2.2.2.1.length i.2.2.2.2.2.2.2.2.2.2.2.2.2.2.2.2.2.2.2.2.1 i.2.2.2.2.2.2.2.2.2.2.2.2.2.2.2.2.2.2.2.2.2.2.1 i.2.2.2.2.2.2.2.2.2.2.2.2.2.2.2.2.2.2.2.2.2.2.2.2.2.1.length i.2.2.2.2.2.2.2.2.2.2.2.2.2.2.2.2.2.2.2.2.2.2.2.1 i.2.2.2.2.2.2.2.2.2.2.2.2.2.2.2.2.2.2.2.2.2.2.2.2.2.2.1 i.2.2.2.2.2.2.2.2.2.2.2.2.2.2.2.2.2.2.2.2.2.2.2.2.2.2.2.2.length i.2.2.2.2.2.2.2.2.2.2.2.2.2.2.2.2.2.2.2.2.2.2.2.2.2.2.2.1) 29, row i.2.2.2.2.2.2.2.2.2.2.2.2.2.2.2.2.2.2.2.1 i.2.2.2.2.2.2.2.2.2.2.2.2.2.2.2.2.2.2.2.2.2.1.length i.2.2.2.2.2.2.2.2.2.2.2.2.2.2.2.2.2.2.2.2.1 (List.flatMap OpD.cells i.2.2.2.2.2.2.2.2.2.2.2.2.2.2.2.2.2.2.2.2.2.1) 64 6, row i.2.2.2.2.2.2.2.2.2.2.2.2.2.2.2.2.2.2.2.2.2.2.1 i.2.2.2.2.2.2.2.2.2.2.2.2.2.2.2.2.2.2.2.2.2.2.2.2.2.1.length i.2.2.2.2.2.2.2.2.2.2.2.2.2.2.2.2.2.2.2.2.2.2.2.1 (List.flatMap ResultD.cells i.2.2.2.2.2.2.2.2.2.2.2.2.2.2.2.2.2.2.2.2.2.2.2.2.1) 84 3, sepL (List.flatMap ResultD.own i.2.2.2.2.2.2.2.2.2.2.2.2.2.2.2.2.2.2.2.2.2.2.2.2.1), row i.2.2.2.2.2.2.2.2.2.2.2.2.2.2.2.2.2.2.2.2.2.2.2.2.2.2.1 i.2.2.2.2.2.2.2.2.2.2.2.2.2.2.2.2.2.2.2.2.2.2.2.2.2.2.2.2.length i.2.2.2.2.2.2.2.2.2.2.2.2.2.2.2.2.2.2.2.2.2.2.2.2.2.2.2.1 (List.flatMap OwnerD.cells i.2.2.2.2.2.2.2.2.2.2.2.2.2.2.2.2.2.2.2.2.2.2.2.2.2.2.2.2) 88 2] ∧ (List.map ResultD.abs i.2.2.2.2.2.2.2.2.2.2.2.2.2.2.2.2.2.2.2.2.2.2.2.2.1 = i.2.2.2.2.2.2.2.2.2.2.2.2.2.2.2.2.2.2.2.2.2.2.2.2.2.1 ∧ SubS 1 A0x0 c0x0 p0.xrest.ls i.2.1 i.2.2.1 i.2.2.2.1 ∧ i.1 ≤ l2.length ∧ i.2.2.2.2.2.2.2.2.2.2.2.2.2.2.2.2.2.2.2.2.2.1.length ≤ 1000 ∧ i.2.2.2.2.2.2.2.2.2.2.2.2.2.2.2.2.2.2.2.2.2.2.2.2.2.1.length ≤ 1000 ∧ i.2.2.2.2.2.2.2.2.2.2.2.2.2.2.2.2.2.2.2.2.2.2.2.2.2.2.2.2.length ≤ 1000 ∧ i.2.2.2.2.2.2.2.1 ≤ 18446744073709551615 ∧ i.2.2.2.2.2.2.2.2.1 ≤ 18446744073709551615 ∧ i.2.2.2.2.2.2.2.2.2.1 ≤ 18446744073709551615 ∧ i.2.2.2.2.2.2.2.2.2.2.1 ≤ 18446744073709551615 ∧ i.2.2.2.2.2.2.2.2.2.2.2.1 ≤ 18446744073709551615 ∧ i.2.2.2.2.2.2.2.2.2.2.2.2.1 ≤ 18446744073709551615 ∧ i.2.2.2.2.2.2.2.2.2.2.2.2.2.1 ≤ 18446744073709551615 ∧ i.2.2.2.2.2.2.2.2.2.2.2.2.2.2.1 ≤ 18446744073709551615 ∧ i.2.2.2.2.2.2.2.2.2.2.2.2.2.2.2.1 ≤ 18446744073709551615 ∧ wire_read_L0 p1 l2 p0.xrest.ls p0.xerrno p1.xCode p1.xPeer p1.xReq p1.xBoot p1.xTxn p1.xLow p1.xVer p1.xEpoch p1.xMove p1.xAttempt p1.xN p1.xFlag p1.xRange.xLo p1.xRange.xHi p1.xOps.ls p1.xResults.ls p1.xOwners.ls = wire_read_L0 p1 (List.drop i.1 l2) i.2.2.2.1 i.2.2.2.2.1 i.2.2.2.2.2.1 i.2.2.2.2.2.2.1 i.2.2.2.2.2.2.2.1 i.2.2.2.2.2.2.2.2.1 i.2.2.2.2.2.2.2.2.2.1 i.2.2.2.2.2.2.2.2.2.2.1 i.2.2.2.2.2.2.2.2.2.2.2.1 i.2.2.2.2.2.2.2.2.2.2.2.2.1 i.2.2.2.2.2.2.2.2.2.2.2.2.2.1 i.2.2.2.2.2.2.2.2.2.2.2.2.2.2.1 i.2.2.2.2.2.2.2.2.2.2.2.2.2.2.2.1 i.2.2.2.2.2.2.2.2.2.2.2.2.2.2.2.2.1 i.2.2.2.2.2.2.2.2.2.2.2.2.2.2.2.2.2.1 i.2.2.2.2.2.2.2.2.2.2.2.2.2.2.2.2.2.2.1 i.2.2.2.2.2.2.2.2.2.2.2.2.2.2.2.2.2.2.2.2.2.1 i.2.2.2.2.2.2.2.2.2.2.2.2.2.2.2.2.2.2.2.2.2.2.2.2.2.1 i.2.2.2.2.2.2.2.2.2.2.2.2.2.2.2.2.2.2.2.2.2.2.2.2.2.2.2.2) := ⟨_, rfl⟩
 have dm57 : ∀ {k21 : Nat} {A22 : Option Addr} {c23 : Nat} {l24 : List UInt8} {z25 : Int} {z26 : Int} {z27 : Int} {k28 : Nat} {k29 : Nat} {k30 : Nat} {k31 : Nat} {k32 : Nat} {k33 : Nat} {k34 : Nat} {k35 : Nat} {k36 : Nat} {b37 : Bool} {s38 : List UInt8} {s39 : List UInt8} {A40 : Option Addr} {c41 : Nat} {l42 : List OpD} {A43 : Option Addr} {c44 : Nat} {d46 : List ResultD} {l45 : List ResultT} {A47 : Option Addr} {c48 : Nat} {l49 : List OwnerD} {w' : World}, I55 (k21, A22, c23, l24, z25, z26, z27, k28, k29, k30, k31, k32, k33, k34, k35, k36, b37, s38, s39, A40, c41, l42, A43, c44, d46, l45, A47, c48, l49) w' ↔ Own w D w' [blk g0 [.slice A22 l24.length c23, .int .i64 z25] 120, blk g1 (MsgC p1.xKind p1.xFrom p1.xTo p1.xClient z26 z27 k28 k29 k30 k31 k32 k33 k34 k35 k36 b37 s38 s39 A40 l42.length c41 A43 l45.length c44 A47 l49.length c48) 29, row A40 l42.length c41 (List.flatMap OpD.cells l42) 64 6, row A43 l45.length c44 (List.flatMap ResultD.cells d46) 84 3, sepL (List.flatMap ResultD.own d46), row A47 l49.length c48 (List.flatMap OwnerD.cells l49) 88 2] ∧ List.map ResultD.abs d46 = l45 ∧ SubS 1 A0x0 c0x0 p0.xrest.ls A22 c23 l24 ∧ k21 ≤ l2.length ∧ l42.length ≤ 1000 ∧ l45.length ≤ 1000 ∧ l49.length ≤ 1000 ∧ k28 ≤ 18446744073709551615 ∧ k29 ≤ 18446744073709551615 ∧ k30 ≤ 18446744073709551615 ∧ k31 ≤ 18446744073709551615 ∧ k32 ≤ 18446744073709551615 ∧ k33 ≤ 18446744073709551615 ∧ k34 ≤ 18446744073709551615 ∧ k35 ≤ 18446744073709551615 ∧ k36 ≤ 18446744073709551615 ∧ wire_read_L0 p1 l2 p0.xrest.ls p0.xerrno p1.xCode p1.xPeer p1.xReq p1.xBoot p1.xTxn p1.xLow p1.xVer p1.xEpoch p1.xMove p1.xAttempt p1.xN p1.xFlag p1.xRange.xLo p1.xRange.xHi p1.xOps.ls p1.xResults.ls p1.xOwners.ls = wire_read_L0 p1 (List.drop k21 l2) l24 z25 z26 z27 k28 k29 k30 k31 k32 k33 k34 k35 k36 b37 s38 s39 l42 l45 l49 := by intros; subst hI56; exact Iff.rfl
 refine Wp.loop (fun i : Nat × (Option Addr) × Nat × (List UInt8) × Int × Int × Int × Nat × Nat × Nat × Nat × Nat × Nat × Nat × Nat × Nat × Bool × (List UInt8) × (List UInt8) × (Option Addr) × Nat × (List OpD) × (Option Addr) × Nat × (List ResultD) × (List ResultT) × (Option Addr) × Nat × (List OwnerD) => [(12, .int .i64 ((i.1 : Nat) : Int)), (11, .int .i64 ((l2.length : Nat) : Int)), (10, .slice A2 l2.length c2), (0, .pointer (some ⟨g0, 0, none⟩)), (1, .pointer (some ⟨g1, 0, none⟩))]) I55 (fun i => l2.length - i.1) (0, A0x0, c0x0, p0.xrest.ls, p0.xerrno, p1.xCode, p1.xPeer, p1.xReq, p1.xBoot, p1.xTxn, p1.xLow, p1.xVer, p1.xEpoch, p1.xMove, p1.xAttempt, p1.xN, p1.xFlag, p1.xRange.xLo, p1.xRange.xHi, A1x0, c1x0, p1.xOps.ls, A1x1, c1x1, d1x1, p1.xResults.ls, A1x2, c1x2, p1.xOwners.ls) ⟨rfl, rfl, rfl, rfl, rfl, trivial⟩ (dm57.2 ⟨H51, by exact hd1x1, by exact (SubS.refl (by omega)), by omega, by first | omega | exact Nat.zero_le _, by first | omega | exact Nat.zero_le _, by first | omega | exact Nat.zero_le _, by omega, by omega, by omega, by omega, by omega, by omega, by omega, by omega, by omega, rfl⟩) ?_
 rintro ⟨k21, A22, c23, l24, z25, z26, z27, k28, k29, k30, k31, k32, k33, k34, k35, k36, b37, s38, s39, A40, c41, l42, A43, c44, d46, l45, A47, c48, l49⟩ w52 hf54
 show Wp _ _ _ [(12, .int .i64 ((k21 : Nat) : Int)), (11, .int .i64 ((l2.length : Nat) : Int)), (10, .slice A2 l2.length c2), (0, .pointer (some ⟨g0, 0, none⟩)), (1, .pointer (some ⟨g1, 0, none⟩))] _ _
 obtain ⟨H53, hi59, hi60, hi61, hi62, hi63, hi64, hi65, hi66, hi67, hi68, hi69, hi70, hi71, hi72, hi73, hq58⟩ := dm57.1 hf54
 have hl74 := abs_len hi59
 have hz75 := (hi60).le
 refine sr (Kz (.bool (decide (((k21 : Nat) : Int) < ((l2.length : Nat) : Int)))) (nt (Wp.seq ?_)))
 by_cases h76 : ((k21 : Nat) : Int) < ((l2.length : Nat) : Int)
 obtain ⟨x77, hx78⟩ := rds_at (ls := l2) (i := k21) eI_len (by decide) (H53.ro hx2) (by first | omega | (simp; done) | (simp; omega))
 have hd79 := drop_at hx78
 refine jT (dT h76) (sk (Wp.seq (bo (sr (fw (.pointer (some ⟨ab A2, ao A2 + k21 * 1, none⟩)) (Yl.indexAddr (El48) rfl rfl ((H53.ro hx2).addr (i := k21) (by omega)) (by omega)) (fw (.int .i64 x77) (Yl.load rfl (Lds.one Tryz.isAgg93 (((H53.ro hx2).elem eI_len hx78 (by decide)).at_ (k := 0) rfl))) (An rfl (Wp.seq (sr (Mz rfl (Mz rfl ?_)))))))))))
 refine WL.do rfl (Do.call Tryz.call54 rfl ?_ (fun _ _ k => k))
 refine Calls.body (args := [.pointer (some ⟨g1, 0, none⟩), .int .i64 x77]) Tryz.func54 rfl rfl rfl ?_
 show Wp _ _ _ [(0, .pointer (some ⟨g1, 0, none⟩)), (1, .int .i64 x77)] _ _
 refine sr (Az rfl (An rfl (Wp.seq (sr (Mn rfl (bo (sr (Kz (.bool (decide (x77 = 0))) (An rfl ?_)))))))))
 by_cases h80 : x77 = 0
 refine jT (dT h80) (sr (Mz rfl (Kz (.pointer (some ⟨g1, 0, none⟩)) (Kz (.pointer (some ⟨g1, 6, none⟩)) (Az rfl (An rfl (rt (bR (tR (Fin.res (res2 rfl rfl rfl) (Mz rfl (Kz (.pointer (some ⟨g1, 6, none⟩)) (Kz (.bool true) (Az rfl (Ar rfl (Mn rfl (jt (sr (Mz rfl (Mz rfl ?_))))))))))))))))))))
 obtain ⟨⟨r86, r87⟩, hr88⟩ : ∃ q : Nat × ReaderT, reader_Reader_Num (ReaderT.mk (Ll.mk l24) z25) 18446744073709551615 = q := ⟨_, rfl⟩
 obtain ⟨D81, HP82, ro83, bk84, rr85⟩ := Own.enter1 H53
 refine cl Tryz.call79 (reader_Reader_Num_ok _ _ g0 (ReaderT.mk (Ll.mk l24) z25) A22 c23 18446744073709551615 r86 r87 HP82 (fun w9 h9 => SubS.rds eB_len (by decide) hi60 ((ro83 _ hx0x0) w9 h9)) (show l24.length ≤ c23 ∧ l24.length ≤ 9223372036854775807 from by omega) hr88) ?_
 rintro _ w89 ⟨A92, c93, rfl, HQ90, hs94, hk95⟩
 have H91 := bk84 _ _ HQ90
 replace hs94 : SubS 1 A22 c23 l24 A92 c93 r87.xrest.ls := hs94
 have hz96 := (hs94).le
 replace hk95 : r86 ≤ 18446744073709551615 := hk95
 refine Kz (.pointer (some ⟨g1, 6, none⟩)) ?_
 have H97 := H91.pk [1, 0, 2, 3, 4, 5]
 refine sto [.int .u64 ((r86 : Nat) : Int)] 6 H97 Tryz.sizeOf22 ?_
 intro w98 H99
 refine nt (Wp.exit (Fin.thenX (Fin.blockX (Fin.then (Wp.region (fw (.int .i64 ((k21 + 1 : Nat) : Int)) (Yl.int (e := IntKind.i64.wrap (((k21 : Nat) : Int) + 1)) yk (by rw [IntWalk.i64_in _ (by omega)]; omega)) (Mz rfl (WL.nil ?_))))))))
 have H100 := H99.pk [1, 0, 2, 3, 4, 5]
 exact Fin.round (k21 + 1, A92, c93, r87.xrest.ls, r87.xerrno, z26, z27, r86, k29, k30, k31, k32, k33, k34, k35, k36, b37, s38, s39, A40, c41, l42, A43, c44, d46, l45, A47, c48, l49) ⟨rfl, rfl, rfl, rfl, rfl, trivial⟩ (dm57.2 ⟨H100, by exact hi59, by exact (SubS.trans hi60 hs94), by omega, by first | omega | exact Nat.zero_le _, by first | omega | exact Nat.zero_le _, by first | omega | exact Nat.zero_le _, by omega, by omega, by omega, by omega, by omega, by omega, by omega, by omega, by omega, et (hq58) (et (congrArg (fun q => wire_read_L0 p1 q l24 z25 z26 z27 k28 k29 k30 k31 k32 k33 k34 k35 k36 b37 s38 s39 l42 l45 l49) hd79) (et (ip h80) (bnd_of hr88)))⟩) (by show l2.length - (k21 + 1) < l2.length - k21; omega)
 refine jF (dF h80) (sr (Kz (.bool (decide (x77 = 1))) (An rfl ?_)))
 by_cases h101 : x77 = 1
 refine jT (dT h101) (sr (Mz rfl (Kz (.pointer (some ⟨g1, 0, none⟩)) (Kz (.pointer (some ⟨g1, 7, none⟩)) (Az rfl (An rfl (rt (bR (tR (Fin.res (res2 rfl rfl rfl) (Mz rfl (Kz (.pointer (some ⟨g1, 7, none⟩)) (Kz (.bool true) (Az rfl (Ar rfl (Mn rfl (jt (sr (Mz rfl (Mz rfl ?_))))))))))))))))))))
 obtain ⟨⟨r107, r108⟩, hr109⟩ : ∃ q : Nat × ReaderT, reader_Reader_Num (ReaderT.mk (Ll.mk l24) z25) 18446744073709551615 = q := ⟨_, rfl⟩
 obtain ⟨D102, HP103, ro104, bk105, rr106⟩ := Own.enter1 H53
 refine cl Tryz.call79 (reader_Reader_Num_ok _ _ g0 (ReaderT.mk (Ll.mk l24) z25) A22 c23 18446744073709551615 r107 r108 HP103 (fun w9 h9 => SubS.rds eB_len (by decide) hi60 ((ro104 _ hx0x0) w9 h9)) (show l24.length ≤ c23 ∧ l24.length ≤ 9223372036854775807 from by omega) hr109) ?_
 rintro _ w110 ⟨A113, c114, rfl, HQ111, hs115, hk116⟩
 have H112 := bk105 _ _ HQ111
 replace hs115 : SubS 1 A22 c23 l24 A113 c114 r108.xrest.ls := hs115
 have hz117 := (hs115).le
 replace hk116 : r107 ≤ 18446744073709551615 := hk116
 refine Kz (.pointer (some ⟨g1, 7, none⟩)) ?_
 have H118 := H112.pk [1, 0, 2, 3, 4, 5]
 refine sto [.int .u64 ((r107 : Nat) : Int)] 7 H118 Tryz.sizeOf22 ?_
 intro w119 H120
 refine nt (Wp.exit (Fin.thenX (Fin.blockX (Fin.then (Wp.region (fw (.int .i64 ((k21 + 1 : Nat) : Int)) (Yl.int (e := IntKind.i64.wrap (((k21 : Nat) : Int) + 1)) yk (by rw [IntWalk.i64_in _ (by omega)]; omega)) (Mz rfl (WL.nil ?_))))))))
 have H121 := H120.pk [1, 0, 2, 3, 4, 5]
 exact Fin.round (k21 + 1, A113, c114, r108.xrest.ls, r108.xerrno, z26, z27, k28, r107, k30, k31, k32, k33, k34, k35, k36, b37, s38, s39, A40, c41, l42, A43, c44, d46, l45, A47, c48, l49) ⟨rfl, rfl, rfl, rfl, rfl, trivial⟩ (dm57.2 ⟨H121, by exact hi59, by exact (SubS.trans hi60 hs115), by omega, by first | omega | exact Nat.zero_le _, by first | omega | exact Nat.zero_le _, by first | omega | exact Nat.zero_le _, by omega, by omega, by omega, by omega, by omega, by omega, by omega, by omega, by omega, et (hq58) (et (congrArg (fun q => wire_read_L0 p1 q l24 z25 z26 z27 k28 k29 k30 k31 k32 k33 k34 k35 k36 b37 s38 s39 l42 l45 l49) hd79) (et (iN h80) (et (ip h101) (bnd_of hr109))))⟩) (by show l2.length - (k21 + 1) < l2.length - k21; omega)
 refine jF (dF h101) (sr (Kz (.bool (decide (x77 = 4))) (An rfl ?_)))
 by_cases h122 : x77 = 4
 refine jT (dT h122) (sr (Mz rfl (Kz (.pointer (some ⟨g1, 0, none⟩)) (Kz (.pointer (some ⟨g1, 8, none⟩)) (Az rfl (An rfl (rt (bR (tR (Fin.res (res2 rfl rfl rfl) (Mz rfl (Kz (.pointer (some ⟨g1, 8, none⟩)) (Kz (.bool true) (Az rfl (Ar rfl (Mn rfl (jt (sr (Mz rfl (Mz rfl ?_))))))))))))))))))))
 obtain ⟨⟨r128, r129⟩, hr130⟩ : ∃ q : Nat × ReaderT, reader_Reader_Num (ReaderT.mk (Ll.mk l24) z25) 18446744073709551615 = q := ⟨_, rfl⟩
 obtain ⟨D123, HP124, ro125, bk126, rr127⟩ := Own.enter1 H53
 refine cl Tryz.call79 (reader_Reader_Num_ok _ _ g0 (ReaderT.mk (Ll.mk l24) z25) A22 c23 18446744073709551615 r128 r129 HP124 (fun w9 h9 => SubS.rds eB_len (by decide) hi60 ((ro125 _ hx0x0) w9 h9)) (show l24.length ≤ c23 ∧ l24.length ≤ 9223372036854775807 from by omega) hr130) ?_
 rintro _ w131 ⟨A134, c135, rfl, HQ132, hs136, hk137⟩
 have H133 := bk126 _ _ HQ132
 replace hs136 : SubS 1 A22 c23 l24 A134 c135 r129.xrest.ls := hs136
 have hz138 := (hs136).le
 replace hk137 : r128 ≤ 18446744073709551615 := hk137
 refine Kz (.pointer (some ⟨g1, 8, none⟩)) ?_
 have H139 := H133.pk [1, 0, 2, 3, 4, 5]
 refine sto [.int .u64 ((r128 : Nat) : Int)] 8 H139 Tryz.sizeOf22 ?_
 intro w140 H141
 refine nt (Wp.exit (Fin.thenX (Fin.blockX (Fin.then (Wp.region (fw (.int .i64 ((k21 + 1 : Nat) : Int)) (Yl.int (e := IntKind.i64.wrap (((k21 : Nat) : Int) + 1)) yk (by rw [IntWalk.i64_in _ (by omega)]; omega)) (Mz rfl (WL.nil ?_))))))))
 have H142 := H141.pk [1, 0, 2, 3, 4, 5]
 exact Fin.round (k21 + 1, A134, c135, r129.xrest.ls, r129.xerrno, z26, z27, k28, k29, r128, k31, k32, k33, k34, k35, k36, b37, s38, s39, A40, c41, l42, A43, c44, d46, l45, A47, c48, l49) ⟨rfl, rfl, rfl, rfl, rfl, trivial⟩ (dm57.2 ⟨H142, by exact hi59, by exact (SubS.trans hi60 hs136), by omega, by first | omega | exact Nat.zero_le _, by first | omega | exact Nat.zero_le _, by first | omega | exact Nat.zero_le _, by omega, by omega, by omega, by omega, by omega, by omega, by omega, by omega, by omega, et (hq58) (et (congrArg (fun q => wire_read_L0 p1 q l24 z25 z26 z27 k28 k29 k30 k31 k32 k33 k34 k35 k36 b37 s38 s39 l42 l45 l49) hd79) (et (iN h80) (et (iN h101) (et (ip h122) (bnd_of hr130)))))⟩) (by show l2.length - (k21 + 1) < l2.length - k21; omega)
 refine jF (dF h122) (sr (Kz (.bool (decide (x77 = 5))) (An rfl ?_)))
 by_cases h143 : x77 = 5
 refine jT (dT h143) (sr (Mz rfl (Kz (.pointer (some ⟨g1, 0, none⟩)) (Kz (.pointer (some ⟨g1, 9, none⟩)) (Az rfl (An rfl (rt (bR (tR (Fin.res (res2 rfl rfl rfl) (Mz rfl (Kz (.pointer (some ⟨g1, 9, none⟩)) (Kz (.bool true) (Az rfl (Ar rfl (Mn rfl (jt (sr (Mz rfl (Mz rfl ?_))))))))))))))))))))
 obtain ⟨⟨r149, r150⟩, hr151⟩ : ∃ q : Nat × ReaderT, reader_Reader_Num (ReaderT.mk (Ll.mk l24) z25) 18446744073709551615 = q := ⟨_, rfl⟩
 obtain ⟨D144, HP145, ro146, bk147, rr148⟩ := Own.enter1 H53
 refine cl Tryz.call79 (reader_Reader_Num_ok _ _ g0 (ReaderT.mk (Ll.mk l24) z25) A22 c23 18446744073709551615 r149 r150 HP145 (fun w9 h9 => SubS.rds eB_len (by decide) hi60 ((ro146 _ hx0x0) w9 h9)) (show l24.length ≤ c23 ∧ l24.length ≤ 9223372036854775807 from by omega) hr151) ?_
 rintro _ w152 ⟨A155, c156, rfl, HQ153, hs157, hk158⟩
 have H154 := bk147 _ _ HQ153
 replace hs157 : SubS 1 A22 c23 l24 A155 c156 r150.xrest.ls := hs157
 have hz159 := (hs157).le
 replace hk158 : r149 ≤ 18446744073709551615 := hk158
 refine Kz (.pointer (some ⟨g1, 9, none⟩)) ?_
 have H160 := H154.pk [1, 0, 2, 3, 4, 5]
 refine sto [.int .u64 ((r149 : Nat) : Int)] 9 H160 Tryz.sizeOf22 ?_
 intro w161 H162
 refine nt (Wp.exit (Fin.thenX (Fin.blockX (Fin.then (Wp.region (fw (.int .i64 ((k21 + 1 : Nat) : Int)) (Yl.int (e := IntKind.i64.wrap (((k21 : Nat) : Int) + 1)) yk (by rw [IntWalk.i64_in _ (by omega)]; omega)) (Mz rfl (WL.nil ?_))))))))
 have H163 := H162.pk [1, 0, 2, 3, 4, 5]
 exact Fin.round (k21 + 1, A155, c156, r150.xrest.ls, r150.xerrno, z26, z27, k28, k29, k30, r149, k32, k33, k34, k35, k36, b37, s38, s39, A40, c41, l42, A43, c44, d46, l45, A47, c48, l49) ⟨rfl, rfl, rfl, rfl, rfl, trivial⟩ (dm57.2 ⟨H163, by exact hi59, by exact (SubS.trans hi60 hs157), by omega, by first | omega | exact Nat.zero_le _, by first | omega | exact Nat.zero_le _, by first | omega | exact Nat.zero_le _, by omega, by omega, by omega, by omega, by omega, by omega, by omega, by omega, by omega, et (hq58) (et (congrArg (fun q => wire_read_L0 p1 q l24 z25 z26 z27 k28 k29 k30 k31 k32 k33 k34 k35 k36 b37 s38 s39 l42 l45 l49) hd79) (et (iN h80) (et (iN h101) (et (iN h122) (et (ip h143) (bnd_of hr151))))))⟩) (by show l2.length - (k21 + 1) < l2.length - k21; omega)
 refine jF (dF h143) (sr (Kz (.bool (decide (x77 = 6))) (An rfl ?_)))
 by_cases h164 : x77 = 6
 refine jT (dT h164) (sr (Mz rfl (Kz (.pointer (some ⟨g1, 0, none⟩)) (Kz (.pointer (some ⟨g1, 11, none⟩)) (Az rfl (An rfl (rt (bR (tR (Fin.res (res2 rfl rfl rfl) (Mz rfl (Kz (.pointer (some ⟨g1, 11, none⟩)) (Kz (.bool true) (Az rfl (Ar rfl (Mn rfl (jt (sr (Mz rfl (Mz rfl ?_))))))))))))))))))))
 obtain ⟨⟨r170, r171⟩, hr172⟩ : ∃ q : Nat × ReaderT, reader_Reader_Num (ReaderT.mk (Ll.mk l24) z25) 18446744073709551615 = q := ⟨_, rfl⟩
 obtain ⟨D165, HP166, ro167, bk168, rr169⟩ := Own.enter1 H53
 refine cl Tryz.call79 (reader_Reader_Num_ok _ _ g0 (ReaderT.mk (Ll.mk l24) z25) A22 c23 18446744073709551615 r170 r171 HP166 (fun w9 h9 => SubS.rds eB_len (by decide) hi60 ((ro167 _ hx0x0) w9 h9)) (show l24.length ≤ c23 ∧ l24.length ≤ 9223372036854775807 from by omega) hr172) ?_
 rintro _ w173 ⟨A176, c177, rfl, HQ174, hs178, hk179⟩
 have H175 := bk168 _ _ HQ174
 replace hs178 : SubS 1 A22 c23 l24 A176 c177 r171.xrest.ls := hs178
 have hz180 := (hs178).le
 replace hk179 : r170 ≤ 18446744073709551615 := hk179
 refine Kz (.pointer (some ⟨g1, 11, none⟩)) ?_
 have H181 := H175.pk [1, 0, 2, 3, 4, 5]
 refine sto [.int .u64 ((r170 : Nat) : Int)] 11 H181 Tryz.sizeOf22 ?_
 intro w182 H183
 refine nt (Wp.exit (Fin.thenX (Fin.blockX (Fin.then (Wp.region (fw (.int .i64 ((k21 + 1 : Nat) : Int)) (Yl.int (e := IntKind.i64.wrap (((k21 : Nat) : Int) + 1)) yk (by rw [IntWalk.i64_in _ (by omega)]; omega)) (Mz rfl (WL.nil ?_))))))))
 have H184 := H183.pk [1, 0, 2, 3, 4, 5]
 exact Fin.round (k21 + 1, A176, c177, r171.xrest.ls, r171.xerrno, z26, z27, k28, k29, k30, k31, k32, r170, k34, k35, k36, b37, s38, s39, A40, c41, l42, A43, c44, d46, l45, A47, c48, l49) ⟨rfl, rfl, rfl, rfl, rfl, trivial⟩ (dm57.2 ⟨H184, by exact hi59, by exact (SubS.trans hi60 hs178), by omega, by first | omega | exact Nat.zero_le _, by first | omega | exact Nat.zero_le _, by first | omega | exact Nat.zero_le _, by omega, by omega, by omega, by omega, by omega, by omega, by omega, by omega, by omega, et (hq58) (et (congrArg (fun q => wire_read_L0 p1 q l24 z25 z26 z27 k28 k29 k30 k31 k32 k33 k34 k35 k36 b37 s38 s39 l42 l45 l49) hd79) (et (iN h80) (et (iN h101) (et (iN h122) (et (iN h143) (et (ip h164) (bnd_of hr172)))))))⟩) (by show l2.length - (k21 + 1) < l2.length - k21; omega)
 refine jF (dF h164) (sr (Kz (.bool (decide (x77 = 9))) (An rfl ?_)))
 by_cases h185 : x77 = 9
 refine jT (dT h185) (sr (Mz rfl (Kz (.pointer (some ⟨g1, 0, none⟩)) (Kz (.pointer (some ⟨g1, 10, none⟩)) (Az rfl (An rfl (rt (bR (tR (Fin.res (res2 rfl rfl rfl) (Mz rfl (Kz (.pointer (some ⟨g1, 10, none⟩)) (Kz (.bool true) (Az rfl (Ar rfl (Mn rfl (jt (sr (Mz rfl (Mz rfl ?_))))))))))))))))))))
 obtain ⟨⟨r191, r192⟩, hr193⟩ : ∃ q : Nat × ReaderT, reader_Reader_Num (ReaderT.mk (Ll.mk l24) z25) 18446744073709551615 = q := ⟨_, rfl⟩
 obtain ⟨D186, HP187, ro188, bk189, rr190⟩ := Own.enter1 H53
 refine cl Tryz.call79 (reader_Reader_Num_ok _ _ g0 (ReaderT.mk (Ll.mk l24) z25) A22 c23 18446744073709551615 r191 r192 HP187 (fun w9 h9 => SubS.rds eB_len (by decide) hi60 ((ro188 _ hx0x0) w9 h9)) (show l24.length ≤ c23 ∧ l24.length ≤ 9223372036854775807 from by omega) hr193) ?_
 rintro _ w194 ⟨A197, c198, rfl, HQ195, hs199, hk200⟩
 have H196 := bk189 _ _ HQ195
 replace hs199 : SubS 1 A22 c23 l24 A197 c198 r192.xrest.ls := hs199
 have hz201 := (hs199).le
 replace hk200 : r191 ≤ 18446744073709551615 := hk200
 refine Kz (.pointer (some ⟨g1, 10, none⟩)) ?_
 have H202 := H196.pk [1, 0, 2, 3, 4, 5]
 refine sto [.int .u64 ((r191 : Nat) : Int)] 10 H202 Tryz.sizeOf22 ?_
 intro w203 H204
 refine nt (Wp.exit (Fin.thenX (Fin.blockX (Fin.then (Wp.region (fw (.int .i64 ((k21 + 1 : Nat) : Int)) (Yl.int (e := IntKind.i64.wrap (((k21 : Nat) : Int) + 1)) yk (by rw [IntWalk.i64_in _ (by omega)]; omega)) (Mz rfl (WL.nil ?_))))))))
 have H205 := H204.pk [1, 0, 2, 3, 4, 5]
 exact Fin.round (k21 + 1, A197, c198, r192.xrest.ls, r192.xerrno, z26, z27, k28, k29, k30, k31, r191, k33, k34, k35, k36, b37, s38, s39, A40, c41, l42, A43, c44, d46, l45, A47, c48, l49) ⟨rfl, rfl, rfl, rfl, rfl, trivial⟩ (dm57.2 ⟨H205, by exact hi59, by exact (SubS.trans hi60 hs199), by omega, by first | omega | exact Nat.zero_le _, by first | omega | exact Nat.zero_le _, by first | omega | exact Nat.zero_le _, by omega, by omega, by omega, by omega, by omega, by omega, by omega, by omega, by omega, et (hq58) (et (congrArg (fun q => wire_read_L0 p1 q l24 z25 z26 z27 k28 k29 k30 k31 k32 k33 k34 k35 k36 b37 s38 s39 l42 l45 l49) hd79) (et (iN h80) (et (iN h101) (et (iN h122) (et (iN h143) (et (iN h164) (et (ip h185) (bnd_of hr193))))))))⟩) (by show l2.length - (k21 + 1) < l2.length - k21; omega)
 refine jF (dF h185) (sr (Kz (.bool (decide (x77 = 10))) (An rfl ?_)))
 by_cases h206 : x77 = 10
 refine jT (dT h206) (sr (Mz rfl (Kz (.pointer (some ⟨g1, 0, none⟩)) (Kz (.pointer (some ⟨g1, 12, none⟩)) (Az rfl (An rfl (rt (bR (tR (Fin.res (res2 rfl rfl rfl) (Mz rfl (Kz (.pointer (some ⟨g1, 12, none⟩)) (Kz (.bool true) (Az rfl (Ar rfl (Mn rfl (jt (sr (Mz rfl (Mz rfl ?_))))))))))))))))))))
 obtain ⟨⟨r212, r213⟩, hr214⟩ : ∃ q : Nat × ReaderT, reader_Reader_Num (ReaderT.mk (Ll.mk l24) z25) 18446744073709551615 = q := ⟨_, rfl⟩
 obtain ⟨D207, HP208, ro209, bk210, rr211⟩ := Own.enter1 H53
 refine cl Tryz.call79 (reader_Reader_Num_ok _ _ g0 (ReaderT.mk (Ll.mk l24) z25) A22 c23 18446744073709551615 r212 r213 HP208 (fun w9 h9 => SubS.rds eB_len (by decide) hi60 ((ro209 _ hx0x0) w9 h9)) (show l24.length ≤ c23 ∧ l24.length ≤ 9223372036854775807 from by omega) hr214) ?_
 rintro _ w215 ⟨A218, c219, rfl, HQ216, hs220, hk221⟩
 have H217 := bk210 _ _ HQ216
 replace hs220 : SubS 1 A22 c23 l24 A218 c219 r213.xrest.ls := hs220
 have hz222 := (hs220).le
 replace hk221 : r212 ≤ 18446744073709551615 := hk221
 refine Kz (.pointer (some ⟨g1, 12, none⟩)) ?_
 have H223 := H217.pk [1, 0, 2, 3, 4, 5]
 refine sto [.int .u64 ((r212 : Nat) : Int)] 12 H223 Tryz.sizeOf22 ?_
 intro w224 H225
 refine nt (Wp.exit (Fin.thenX (Fin.blockX (Fin.then (Wp.region (fw (.int .i64 ((k21 + 1 : Nat) : Int)) (Yl.int (e := IntKind.i64.wrap (((k21 : Nat) : Int) + 1)) yk (by rw [IntWalk.i64_in _ (by omega)]; omega)) (Mz rfl (WL.nil ?_))))))))
 have H226 := H225.pk [1, 0, 2, 3, 4, 5]
 exact Fin.round (k21 + 1, A218, c219, r213.xrest.ls, r213.xerrno, z26, z27, k28, k29, k30, k31, k32, k33, r212, k35, k36, b37, s38, s39, A40, c41, l42, A43, c44, d46, l45, A47, c48, l49) ⟨rfl, rfl, rfl, rfl, rfl, trivial⟩ (dm57.2 ⟨H226, by exact hi59, by exact (SubS.trans hi60 hs220), by omega, by first | omega | exact Nat.zero_le _, by first | omega | exact Nat.zero_le _, by first | omega | exact Nat.zero_le _, by omega, by omega, by omega, by omega, by omega, by omega, by omega, by omega, by omega, et (hq58) (et (congrArg (fun q => wire_read_L0 p1 q l24 z25 z26 z27 k28 k29 k30 k31 k32 k33 k34 k35 k36 b37 s38 s39 l42 l45 l49) hd79) (et (iN h80) (et (iN h101) (et (iN h122) (et (iN h143) (et (iN h164) (et (iN h185) (et (ip h206) (bnd_of hr214)))))))))⟩) (by show l2.length - (k21 + 1) < l2.length - k21; omega)
 refine jF (dF h206) (sr (Kz (.bool (decide (x77 = 14))) (An rfl ?_)))
 by_cases h227 : x77 = 14
 refine jT (dT h227) (sr (Mz rfl (Kz (.pointer (some ⟨g1, 0, none⟩)) (Kz (.pointer (some ⟨g1, 13, none⟩)) (Az rfl (An rfl (rt (bR (tR (Fin.res (res2 rfl rfl rfl) (Mz rfl (Kz (.pointer (some ⟨g1, 13, none⟩)) (Kz (.bool true) (Az rfl (Ar rfl (Mn rfl (jt (sr (Mz rfl (Mz rfl ?_))))))))))))))))))))
 obtain ⟨⟨r233, r234⟩, hr235⟩ : ∃ q : Nat × ReaderT, reader_Reader_Num (ReaderT.mk (Ll.mk l24) z25) 18446744073709551615 = q := ⟨_, rfl⟩
 obtain ⟨D228, HP229, ro230, bk231, rr232⟩ := Own.enter1 H53
 refine cl Tryz.call79 (reader_Reader_Num_ok _ _ g0 (ReaderT.mk (Ll.mk l24) z25) A22 c23 18446744073709551615 r233 r234 HP229 (fun w9 h9 => SubS.rds eB_len (by decide) hi60 ((ro230 _ hx0x0) w9 h9)) (show l24.length ≤ c23 ∧ l24.length ≤ 9223372036854775807 from by omega) hr235) ?_
 rintro _ w236 ⟨A239, c240, rfl, HQ237, hs241, hk242⟩
 have H238 := bk231 _ _ HQ237
 replace hs241 : SubS 1 A22 c23 l24 A239 c240 r234.xrest.ls := hs241
 have hz243 := (hs241).le
 replace hk242 : r233 ≤ 18446744073709551615 := hk242
 refine Kz (.pointer (some ⟨g1, 13, none⟩)) ?_
 have H244 := H238.pk [1, 0, 2, 3, 4, 5]
 refine sto [.int .u64 ((r233 : Nat) : Int)] 13 H244 Tryz.sizeOf22 ?_
 intro w245 H246
 refine nt (Wp.exit (Fin.thenX (Fin.blockX (Fin.then (Wp.region (fw (.int .i64 ((k21 + 1 : Nat) : Int)) (Yl.int (e := IntKind.i64.wrap (((k21 : Nat) : Int) + 1)) yk (by rw [IntWalk.i64_in _ (by omega)]; omega)) (Mz rfl (WL.nil ?_))))))))
 have H247 := H246.pk [1, 0, 2, 3, 4, 5]
 exact Fin.round (k21 + 1, A239, c240, r234.xrest.ls, r234.xerrno, z26, z27, k28, k29, k30, k31, k32, k33, k34, r233, k36, b37, s38, s39, A40, c41, l42, A43, c44, d46, l45, A47, c48, l49) ⟨rfl, rfl, rfl, rfl, rfl, trivial⟩ (dm57.2 ⟨H247, by exact hi59, by exact (SubS.trans hi60 hs241), by omega, by first | omega | exact Nat.zero_le _, by first | omega | exact Nat.zero_le _, by first | omega | exact Nat.zero_le _, by omega, by omega, by omega, by omega, by omega, by omega, by omega, by omega, by omega, et (hq58) (et (congrArg (fun q => wire_read_L0 p1 q l24 z25 z26 z27 k28 k29 k30 k31 k32 k33 k34 k35 k36 b37 s38 s39 l42 l45 l49) hd79) (et (iN h80) (et (iN h101) (et (iN h122) (et (iN h143) (et (iN h164) (et (iN h185) (et (iN h206) (et (ip h227) (bnd_of hr235))))))))))⟩) (by show l2.length - (k21 + 1) < l2.length - k21; omega)
 refine jF (dF h227) (sr (Kz (.bool (decide (x77 = 15))) (An rfl ?_)))
 by_cases h248 : x77 = 15
 refine jT (dT h248) (sr (Mz rfl (Kz (.pointer (some ⟨g1, 0, none⟩)) (Kz (.pointer (some ⟨g1, 14, none⟩)) (Az rfl (An rfl (rt (bR (tR (Fin.res (res2 rfl rfl rfl) (Mz rfl (Kz (.pointer (some ⟨g1, 14, none⟩)) (Kz (.bool true) (Az rfl (Ar rfl (Mn rfl (jt (sr (Mz rfl (Mz rfl ?_))))))))))))))))))))
 obtain ⟨⟨r254, r255⟩, hr256⟩ : ∃ q : Nat × ReaderT, reader_Reader_Num (ReaderT.mk (Ll.mk l24) z25) 18446744073709551615 = q := ⟨_, rfl⟩
 obtain ⟨D249, HP250, ro251, bk252, rr253⟩ := Own.enter1 H53
 refine cl Tryz.call79 (reader_Reader_Num_ok _ _ g0 (ReaderT.mk (Ll.mk l24) z25) A22 c23 18446744073709551615 r254 r255 HP250 (fun w9 h9 => SubS.rds eB_len (by decide) hi60 ((ro251 _ hx0x0) w9 h9)) (show l24.length ≤ c23 ∧ l24.length ≤ 9223372036854775807 from by omega) hr256) ?_
 rintro _ w257 ⟨A260, c261, rfl, HQ258, hs262, hk263⟩
 have H259 := bk252 _ _ HQ258
 replace hs262 : SubS 1 A22 c23 l24 A260 c261 r255.xrest.ls := hs262
 have hz264 := (hs262).le
 replace hk263 : r254 ≤ 18446744073709551615 := hk263
 refine Kz (.pointer (some ⟨g1, 14, none⟩)) ?_
 have H265 := H259.pk [1, 0, 2, 3, 4, 5]
 refine sto [.int .u64 ((r254 : Nat) : Int)] 14 H265 Tryz.sizeOf22 ?_
 intro w266 H267
 refine nt (Wp.exit (Fin.thenX (Fin.blockX (Fin.then (Wp.region (fw (.int .i64 ((k21 + 1 : Nat) : Int)) (Yl.int (e := IntKind.i64.wrap (((k21 : Nat) : Int) + 1)) yk (by rw [IntWalk.i64_in _ (by omega)]; omega)) (Mz rfl (WL.nil ?_))))))))
 have H268 := H267.pk [1, 0, 2, 3, 4, 5]
 exact Fin.round (k21 + 1, A260, c261, r255.xrest.ls, r255.xerrno, z26, z27, k28, k29, k30, k31, k32, k33, k34, k35, r254, b37, s38, s39, A40, c41, l42, A43, c44, d46, l45, A47, c48, l49) ⟨rfl, rfl, rfl, rfl, rfl, trivial⟩ (dm57.2 ⟨H268, by exact hi59, by exact (SubS.trans hi60 hs262), by omega, by first | omega | exact Nat.zero_le _, by first | omega | exact Nat.zero_le _, by first | omega | exact Nat.zero_le _, by omega, by omega, by omega, by omega, by omega, by omega, by omega, by omega, by omega, et (hq58) (et (congrArg (fun q => wire_read_L0 p1 q l24 z25 z26 z27 k28 k29 k30 k31 k32 k33 k34 k35 k36 b37 s38 s39 l42 l45 l49) hd79) (et (iN h80) (et (iN h101) (et (iN h122) (et (iN h143) (et (iN h164) (et (iN h185) (et (iN h206) (et (iN h227) (et (ip h248) (bnd_of hr256)))))))))))⟩) (by show l2.length - (k21 + 1) < l2.length - k21; omega)
 refine jF (dF h248) (Wp.skip (bN (Fin.then (sr (Az rfl (An rfl (rt (Fin.res (res2 rfl rfl rfl) (Mz rfl (Kz (.pointer none) (Kz (.bool false) (Az rfl (Ar rfl (Mn rfl (jf (sk (sr (Mn rfl (bo (sr (Kz (.bool (decide (x77 = 2))) (An rfl ?_))))))))))))))))))))))
 by_cases h269 : x77 = 2
 refine jT (dT h269) (Wp.region (Mz rfl (Mz rfl ?_)))
 obtain ⟨⟨r275, r276⟩, hr277⟩ : ∃ q : UInt8 × ReaderT, reader_Reader_Octet (ReaderT.mk (Ll.mk l24) z25) = q := ⟨_, rfl⟩
 obtain ⟨D270, HP271, ro272, bk273, rr274⟩ := Own.enter1 H53
 refine cl Tryz.call39 (reader_Reader_Octet_ok _ _ g0 (ReaderT.mk (Ll.mk l24) z25) A22 c23 r275 r276 HP271 (fun w9 h9 => SubS.rds eB_len (by decide) hi60 ((ro272 _ hx0x0) w9 h9)) (show l24.length ≤ c23 ∧ l24.length ≤ 9223372036854775807 from by omega) hr277) ?_
 rintro _ w278 ⟨A281, c282, rfl, HQ279, hs283⟩
 have H280 := bk273 _ _ HQ279
 replace hs283 : SubS 1 A22 c23 l24 A281 c282 r276.xrest.ls := hs283
 have hz284 := (hs283).le
 have hz285 : r275.toNat ≤ 255 := Nat.le_of_lt_succ (UInt8.toNat_lt _)
 refine fw (.int .i64 ((r275.toNat : Nat) : Int)) (Yl.int (e := IntKind.i64.wrap ((r275.toNat : Nat) : Int)) yk (IntWalk.i64_in _ (by omega))) (Kz (.pointer (some ⟨g1, 0, none⟩)) (Kz (.pointer (some ⟨g1, 4, none⟩)) ?_))
 have H286 := H280.pk [1, 0, 2, 3, 4, 5]
 refine sto [.int .i64 ((r275.toNat : Nat) : Int)] 4 H286 Tryz.sizeOf3 ?_
 intro w287 H288
 refine WL.nil (bN (bN (Fin.then (Wp.region (fw (.int .i64 ((k21 + 1 : Nat) : Int)) (Yl.int (e := IntKind.i64.wrap (((k21 : Nat) : Int) + 1)) yk (by rw [IntWalk.i64_in _ (by omega)]; omega)) (Mz rfl (WL.nil ?_)))))))
 have H289 := H288.pk [1, 0, 2, 3, 4, 5]
 exact Fin.round (k21 + 1, A281, c282, r276.xrest.ls, r276.xerrno, ((r275.toNat : Nat) : Int), z27, k28, k29, k30, k31, k32, k33, k34, k35, k36, b37, s38, s39, A40, c41, l42, A43, c44, d46, l45, A47, c48, l49) ⟨rfl, rfl, rfl, rfl, rfl, trivial⟩ (dm57.2 ⟨H289, by exact hi59, by exact (SubS.trans hi60 hs283), by omega, by first | omega | exact Nat.zero_le _, by first | omega | exact Nat.zero_le _, by first | omega | exact Nat.zero_le _, by omega, by omega, by omega, by omega, by omega, by omega, by omega, by omega, by omega, et (hq58) (et (congrArg (fun q => wire_read_L0 p1 q l24 z25 z26 z27 k28 k29 k30 k31 k32 k33 k34 k35 k36 b37 s38 s39 l42 l45 l49) hd79) (et (iN h80) (et (iN h101) (et (iN h122) (et (iN h143) (et (iN h164) (et (iN h185) (et (iN h206) (et (iN h227) (et (iN h248) (et (ip h269) (bnd_of hr277))))))))))))⟩) (by show l2.length - (k21 + 1) < l2.length - k21; omega)
 refine jF (dF h269) (sr (Kz (.bool (decide (x77 = 12))) (An rfl ?_)))
 by_cases h290 : x77 = 12
 refine jT (dT h290) (Wp.region (Mz rfl (Mz rfl ?_)))
 obtain ⟨⟨r296, r297⟩, hr298⟩ : ∃ q : UInt8 × ReaderT, reader_Reader_Octet (ReaderT.mk (Ll.mk l24) z25) = q := ⟨_, rfl⟩
 obtain ⟨D291, HP292, ro293, bk294, rr295⟩ := Own.enter1 H53
 refine cl Tryz.call39 (reader_Reader_Octet_ok _ _ g0 (ReaderT.mk (Ll.mk l24) z25) A22 c23 r296 r297 HP292 (fun w9 h9 => SubS.rds eB_len (by decide) hi60 ((ro293 _ hx0x0) w9 h9)) (show l24.length ≤ c23 ∧ l24.length ≤ 9223372036854775807 from by omega) hr298) ?_
 rintro _ w299 ⟨A302, c303, rfl, HQ300, hs304⟩
 have H301 := bk294 _ _ HQ300
 replace hs304 : SubS 1 A22 c23 l24 A302 c303 r297.xrest.ls := hs304
 have hz305 := (hs304).le
 have hz306 : r296.toNat ≤ 255 := Nat.le_of_lt_succ (UInt8.toNat_lt _)
 refine fw (.int .i64 ((r296.toNat : Nat) : Int)) (Yl.int (e := IntKind.i64.wrap ((r296.toNat : Nat) : Int)) yk (IntWalk.i64_in _ (by omega))) (Kz (.pointer (some ⟨g1, 0, none⟩)) (Kz (.pointer (some ⟨g1, 5, none⟩)) ?_))
 have H307 := H301.pk [1, 0, 2, 3, 4, 5]
 refine sto [.int .i64 ((r296.toNat : Nat) : Int)] 5 H307 Tryz.sizeOf3 ?_
 intro w308 H309
 refine WL.nil (bN (bN (Fin.then (Wp.region (fw (.int .i64 ((k21 + 1 : Nat) : Int)) (Yl.int (e := IntKind.i64.wrap (((k21 : Nat) : Int) + 1)) yk (by rw [IntWalk.i64_in _ (by omega)]; omega)) (Mz rfl (WL.nil ?_)))))))
 have H310 := H309.pk [1, 0, 2, 3, 4, 5]
 exact Fin.round (k21 + 1, A302, c303, r297.xrest.ls, r297.xerrno, z26, ((r296.toNat : Nat) : Int), k28, k29, k30, k31, k32, k33, k34, k35, k36, b37, s38, s39, A40, c41, l42, A43, c44, d46, l45, A47, c48, l49) ⟨rfl, rfl, rfl, rfl, rfl, trivial⟩ (dm57.2 ⟨H310, by exact hi59, by exact (SubS.trans hi60 hs304), by omega, by first | omega | exact Nat.zero_le _, by first | omega | exact Nat.zero_le _, by first | omega | exact Nat.zero_le _, by omega, by omega, by omega, by omega, by omega, by omega, by omega, by omega, by omega, et (hq58) (et (congrArg (fun q => wire_read_L0 p1 q l24 z25 z26 z27 k28 k29 k30 k31 k32 k33 k34 k35 k36 b37 s38 s39 l42 l45 l49) hd79) (et (iN h80) (et (iN h101) (et (iN h122) (et (iN h143) (et (iN h164) (et (iN h185) (et (iN h206) (et (iN h227) (et (iN h248) (et (iN h269) (et (ip h290) (bnd_of hr298)))))))))))))⟩) (by show l2.length - (k21 + 1) < l2.length - k21; omega)
 refine jF (dF h290) (sr (Kz (.bool (decide (x77 = 8))) (An rfl ?_)))
 by_cases h311 : x77 = 8
 refine jT (dT h311) (Wp.region (Mz rfl (Mz rfl ?_)))
 obtain ⟨⟨r317, r318⟩, hr319⟩ : ∃ q : Bool × ReaderT, wire_readTruth (ReaderT.mk (Ll.mk l24) z25) = q := ⟨_, rfl⟩
 obtain ⟨D312, HP313, ro314, bk315, rr316⟩ := Own.enter1 H53
 refine cl Tryz.call80 (wire_readTruth_ok _ _ g0 (ReaderT.mk (Ll.mk l24) z25) A22 c23 r317 r318 HP313 (fun w9 h9 => SubS.rds eB_len (by decide) hi60 ((ro314 _ hx0x0) w9 h9)) (show l24.length ≤ c23 ∧ l24.length ≤ 9223372036854775807 from by omega) hr319) ?_
 rintro _ w320 ⟨A323, c324, rfl, HQ321, hs325⟩
 have H322 := bk315 _ _ HQ321
 replace hs325 : SubS 1 A22 c23 l24 A323 c324 r318.xrest.ls := hs325
 have hz326 := (hs325).le
 refine Kz (.pointer (some ⟨g1, 0, none⟩)) (Kz (.pointer (some ⟨g1, 15, none⟩)) ?_)
 have H327 := H322.pk [1, 0, 2, 3, 4, 5]
 refine sto [.bool r317] 15 H327 Tryz.sizeOf4 ?_
 intro w328 H329
 refine WL.nil (bN (bN (Fin.then (Wp.region (fw (.int .i64 ((k21 + 1 : Nat) : Int)) (Yl.int (e := IntKind.i64.wrap (((k21 : Nat) : Int) + 1)) yk (by rw [IntWalk.i64_in _ (by omega)]; omega)) (Mz rfl (WL.nil ?_)))))))
 have H330 := H329.pk [1, 0, 2, 3, 4, 5]
 exact Fin.round (k21 + 1, A323, c324, r318.xrest.ls, r318.xerrno, z26, z27, k28, k29, k30, k31, k32, k33, k34, k35, k36, r317, s38, s39, A40, c41, l42, A43, c44, d46, l45, A47, c48, l49) ⟨rfl, rfl, rfl, rfl, rfl, trivial⟩ (dm57.2 ⟨H330, by exact hi59, by exact (SubS.trans hi60 hs325), by omega, by first | omega | exact Nat.zero_le _, by first | omega | exact Nat.zero_le _, by first | omega | exact Nat.zero_le _, by omega, by omega, by omega, by omega, by omega, by omega, by omega, by omega, by omega, et (hq58) (et (congrArg (fun q => wire_read_L0 p1 q l24 z25 z26 z27 k28 k29 k30 k31 k32 k33 k34 k35 k36 b37 s38 s39 l42 l45 l49) hd79) (et (iN h80) (et (iN h101) (et (iN h122) (et (iN h143) (et (iN h164) (et (iN h185) (et (iN h206) (et (iN h227) (et (iN h248) (et (iN h269) (et (iN h290) (et (ip h311) (bnd_of hr319))))))))))))))⟩) (by show l2.length - (k21 + 1) < l2.length - k21; omega)
 refine jF (dF h311) (sr (Kz (.bool (decide (x77 = 13))) (An rfl ?_)))
 by_cases h331 : x77 = 13
 refine jT (dT h331) ?_
 have H332 := H53.pk [2, 3, 4, 5, 0, 1]
 have H334 := H332.drew
 refine Wp.drawnX [] (fun W => ∃ L', Own w D W ([row A40 l42.length c41 (List.flatMap OpD.cells l42) 64 6, row A43 l45.length c44 (List.flatMap ResultD.cells d46) 84 3, sepL (List.flatMap ResultD.own d46), row A47 l49.length c48 (List.flatMap OwnerD.cells l49) 88 2] ++ L')) (by kernel_rfl) (by kernel_rfl) (NoP.block (NoP.block (NoP.then (NoP.then (NoP.block NoP.base))))) ⟨_, H334⟩ ?_
 revert H334
 generalize World.drew w52 = w333
 intro H334
 refine GX.take (v := .pointer (some ⟨g0, 0, none⟩)) (rs := []) 0 rfl (by kernel_rfl) (fun _ _ => Yl.move rfl) (GX.take (v := .pointer (some ⟨g1, 0, none⟩)) (rs := []) 1 rfl (by kernel_rfl) (fun _ _ => Yl.move rfl) (GX.take (v := .pointer (some ⟨g1, 0, none⟩)) (rs := []) 2 rfl (by kernel_rfl) (fun _ _ => yk) (GX.take (v := .pointer (some ⟨g1, 16, none⟩)) (rs := []) 3 rfl (by kernel_rfl) (fun _ _ => yk) (GX.take (v := .pointer (some ⟨g1, 16, none⟩)) (rs := []) 4 rfl (by kernel_rfl) (fun _ _ => yk) (GX.take (v := .pointer (some ⟨g1, 0, none⟩)) (rs := []) 5 rfl (by kernel_rfl) (fun _ _ => Yl.move rfl) (GX.take (v := .pointer (some ⟨g1, 0, none⟩)) (rs := []) 6 rfl (by kernel_rfl) (fun _ _ => yk) (GX.take (v := .pointer (some ⟨g1, 16, none⟩)) (rs := []) 7 rfl (by kernel_rfl) (fun _ _ => yk) (GX.take (v := .pointer (some ⟨g1, 17, none⟩)) (rs := []) 8 rfl (by kernel_rfl) (fun _ _ => yk) ?_))))))))
 refine GX.do 9 rfl (by kernel_rfl) (Do.newRow (cs := [.pointer (some ⟨g1, 16, none⟩), .pointer (some ⟨g1, 17, none⟩)]) (t := 124) (sz := 1) (m := 2) H334 rfl rfl (fun _ => by kernel_rfl) rfl (by decide) ?_)
 intro A335 w336 H337
 replace H337 := Own.reh (y := row A335 2 2 (List.flatMap eV ([(Value.pointer (some ⟨g1, 16, none⟩)), (Value.pointer (some ⟨g1, 17, none⟩))])) 124 1) rfl H337
 have H338 := H337.pk [1, 2, 3, 4, 0, 5, 6]
 refine ⟨.inr ⟨_, H338⟩, ?_⟩
 refine GX.do 10 rfl (by kernel_rfl) (Do.call Tryz.call81 rfl ?_ (fun _ _ k => k))
 refine Calls.body (args := [.pointer (some ⟨g0, 0, none⟩), .slice A335 2 2]) Tryz.func81 rfl rfl rfl ?_
 show Wp _ _ _ [(0, .pointer (some ⟨g0, 0, none⟩)), (1, .slice A335 2 2)] _ _
 refine sr (Mz rfl (Kz (.int .i64 2) (Mn rfl (bo (Wp.unroll 200 (sr (Kz (.bool true) (nt (Wp.seq (jt (sk (Wp.seq (bo (sr ?_))))))))))))))
 have hx339 : ([(Value.pointer (some ⟨g1, 16, none⟩)), (Value.pointer (some ⟨g1, 17, none⟩))] : List Value)[0]? = some (Value.pointer (some ⟨g1, 16, none⟩)) := rfl
 refine fw (.pointer (some ⟨ab A335, ao A335 + 0 * 1, none⟩)) (Yl.indexAddr (El148) rfl rfl ((H338.rds (i := 4) rfl).addr (i := 0) (by omega)) (by omega)) (fw (.pointer (some ⟨g1, 16, none⟩)) (Yl.load rfl (Lds.one Tryz.isAgg124 (((H338.rds (i := 4) rfl).elem eV_len hx339 (by decide)).at_ (k := 0) rfl))) (An rfl (Wp.region (Mz rfl (Mz rfl ?_)))))
 have H340 := H338.pk [5, 0, 1, 2, 3, 4, 6]
 obtain ⟨⟨r346, r347⟩, hr348⟩ : ∃ q : (List UInt8) × ReaderT, reader_Reader_Text (ReaderT.mk (Ll.mk l24) z25) 255 = q := ⟨_, rfl⟩
 obtain ⟨D341, HP342, ro343, bk344, rr345⟩ := Own.enter1 H340
 refine cl Tryz.call109 (reader_Reader_Text_ok _ _ g0 (ReaderT.mk (Ll.mk l24) z25) A22 c23 255 r346 r347 HP342 (fun w9 h9 => SubS.rds eB_len (by decide) hi60 ((ro343 _ hx0x0) w9 h9)) (show l24.length ≤ c23 ∧ l24.length ≤ 9223372036854775807 from by omega) hr348) ?_
 rintro _ w349 ⟨A352, c353, rfl, HQ350, hs354⟩
 have H351 := bk344 _ _ HQ350
 replace hs354 : SubS 1 A22 c23 l24 A352 c353 r347.xrest.ls := hs354
 have hz355 := (hs354).le
 refine Kz (.pointer (some ⟨g1, 16, none⟩)) ?_
 have H356 := H351.pk [6, 0, 1, 2, 3, 4, 5]
 refine sto [.string ⟨List.toArray r346⟩] 16 H356 Tryz.sizeOf9 ?_
 intro w357 H358
 refine WL.nil (bN (Fin.then (Wp.region (Kz (.int .i64 1) (Mz rfl (WL.nil (Fin.again [(8, .int .i64 1), (7, .int .i64 2), (6, .slice A335 2 2), (0, .pointer (some ⟨g0, 0, none⟩))] ⟨rfl, rfl, rfl, rfl, trivial⟩ (sr (Kz (.bool true) (nt (Wp.seq (jt (sk (Wp.seq (bo (sr ?_))))))))))))))))
 have hx359 : ([(Value.pointer (some ⟨g1, 16, none⟩)), (Value.pointer (some ⟨g1, 17, none⟩))] : List Value)[1]? = some (Value.pointer (some ⟨g1, 17, none⟩)) := rfl
 refine fw (.pointer (some ⟨ab A335, ao A335 + 1 * 1, none⟩)) (Yl.indexAddr (El148) rfl rfl ((H358.rds (i := 6) rfl).addr (i := 1) (by omega)) (by omega)) (fw (.pointer (some ⟨g1, 17, none⟩)) (Yl.load rfl (Lds.one Tryz.isAgg124 (((H358.rds (i := 6) rfl).elem eV_len hx359 (by decide)).at_ (k := 0) rfl))) (An rfl (Wp.region (Mz rfl (Mz rfl ?_)))))
 have H360 := H358.pk [1, 0, 2, 3, 4, 5, 6]
 obtain ⟨⟨r366, r367⟩, hr368⟩ : ∃ q : (List UInt8) × ReaderT, reader_Reader_Text r347 255 = q := ⟨_, rfl⟩
 obtain ⟨D361, HP362, ro363, bk364, rr365⟩ := Own.enter1 H360
 refine cl Tryz.call109 (reader_Reader_Text_ok _ _ g0 r347 A352 c353 255 r366 r367 HP362 (fun w9 h9 => SubS.rds eB_len (by decide) hs354 ((fun w9 h9 => SubS.rds eB_len (by decide) hi60 ((ro363 _ hx0x0) w9 h9)) w9 h9)) (show r347.xrest.ls.length ≤ c353 ∧ r347.xrest.ls.length ≤ 9223372036854775807 from by omega) hr368) ?_
 rintro _ w369 ⟨A372, c373, rfl, HQ370, hs374⟩
 have H371 := bk364 _ _ HQ370
 replace hs374 : SubS 1 A352 c353 r347.xrest.ls A372 c373 r367.xrest.ls := hs374
 have hz375 := (hs374).le
 refine Kz (.pointer (some ⟨g1, 17, none⟩)) ?_
 have H376 := H371.pk [1, 0, 2, 3, 4, 5, 6]
 refine sto [.string ⟨List.toArray r366⟩] 17 H376 Tryz.sizeOf9 ?_
 intro w377 H378
 refine WL.nil (bN (Fin.then (Wp.region (Kz (.int .i64 2) (Mz rfl (WL.nil (Fin.again [(8, .int .i64 2), (7, .int .i64 2), (6, .slice A335 2 2), (0, .pointer (some ⟨g0, 0, none⟩))] ⟨rfl, rfl, rfl, rfl, trivial⟩ (sr (Kz (.bool false) (nt (Wp.seq (jf (Wp.exit (Fin.thenX (Fin.thenX (Fin.blockX (Fin.res0 (res0 rfl) ?_)))))))))))))))))
 have H379 := H378.pk [2, 3, 4, 5, 0, 1, 6]
 refine ⟨.inr ⟨_, H379⟩, ?_⟩
 refine GX.done (by kernel_rfl) (bN (bN (Fin.then (Wp.region (fw (.int .i64 ((k21 + 1 : Nat) : Int)) (Yl.int (e := IntKind.i64.wrap (((k21 : Nat) : Int) + 1)) yk (by rw [IntWalk.i64_in _ (by omega)]; omega)) (Mz rfl (WL.nil ?_)))))))
 have H380 := H379.pk [5, 4, 0, 1, 2, 3]
 exact Fin.round (k21 + 1, A372, c373, r367.xrest.ls, r367.xerrno, z26, z27, k28, k29, k30, k31, k32, k33, k34, k35, k36, b37, r346, r366, A40, c41, l42, A43, c44, d46, l45, A47, c48, l49) ⟨rfl, rfl, rfl, rfl, rfl, trivial⟩ (dm57.2 ⟨H380, by exact hi59, by exact (SubS.trans (SubS.trans hi60 hs354) hs374), by omega, by first | omega | exact Nat.zero_le _, by first | omega | exact Nat.zero_le _, by first | omega | exact Nat.zero_le _, by omega, by omega, by omega, by omega, by omega, by omega, by omega, by omega, by omega, et (hq58) (et (congrArg (fun q => wire_read_L0 p1 q l24 z25 z26 z27 k28 k29 k30 k31 k32 k33 k34 k35 k36 b37 s38 s39 l42 l45 l49) hd79) (et (iN h80) (et (iN h101) (et (iN h122) (et (iN h143) (et (iN h164) (et (iN h185) (et (iN h206) (et (iN h227) (et (iN h248) (et (iN h269) (et (iN h290) (et (iN h311) (et (ip h331) (et (bnd_of hr348) (bnd_of hr368))))))))))))))))⟩) (by show l2.length - (k21 + 1) < l2.length - k21; omega)
 refine jF (dF h331) (sr (Kz (.bool (decide (x77 = 7))) (An rfl ?_)))
 by_cases h381 : x77 = 7
 refine jT (dT h381) (Wp.region (Mz rfl (Mz rfl ?_)))
 obtain ⟨⟨r387, r388⟩, hr389⟩ : ∃ q : (List OpD) × ReaderT, reader_List_api_Op (ReaderT.mk (Ll.mk l24) z25) 255 = q := ⟨_, rfl⟩
 obtain ⟨D382, HP383, ro384, bk385, rr386⟩ := Own.enter1 H53
 refine cl Tryz.call82 (reader_List_api_Op_ok _ _ g0 (ReaderT.mk (Ll.mk l24) z25) A22 c23 255 r387 r388 HP383 (fun w9 h9 => SubS.rds eB_len (by decide) hi60 ((ro384 _ hx0x0) w9 h9)) (show l24.length ≤ c23 ∧ l24.length ≤ 9223372036854775807 from by omega) (by omega) hr389) ?_
 rintro _ w390 ⟨A393, c394, A395, c396, rfl, HQ391, hs397, hk398⟩
 have H392 := bk385 _ _ HQ391
 replace hs397 : SubS 1 A22 c23 l24 A395 c396 r388.xrest.ls := hs397
 have hz399 := (hs397).le
 have hb400 := H392.rowC (i := 0) rfl
 replace hk398 : r387.length ≤ 1000 := hk398
 refine Kz (.pointer (some ⟨g1, 0, none⟩)) (Kz (.pointer (some ⟨g1, 18, none⟩)) ?_)
 have H401 := H392.pk [2, 0, 1, 3, 4, 5, 6]
 refine sto [.slice A393 r387.length c394] 18 H401 Tryz.sizeOf25 ?_
 intro w402 H403
 refine WL.nil (bN (bN (Fin.then (Wp.region (fw (.int .i64 ((k21 + 1 : Nat) : Int)) (Yl.int (e := IntKind.i64.wrap (((k21 : Nat) : Int) + 1)) yk (by rw [IntWalk.i64_in _ (by omega)]; omega)) (Mz rfl (WL.nil ?_)))))))
 have H404 := H403.pk [2, 0, 1, 4, 5, 6]
 exact Fin.round (k21 + 1, A395, c396, r388.xrest.ls, r388.xerrno, z26, z27, k28, k29, k30, k31, k32, k33, k34, k35, k36, b37, s38, s39, A393, c394, r387, A43, c44, d46, l45, A47, c48, l49) ⟨rfl, rfl, rfl, rfl, rfl, trivial⟩ (dm57.2 ⟨H404, by exact hi59, by exact (SubS.trans hi60 hs397), by omega, by first | omega | exact Nat.zero_le _, by first | omega | exact Nat.zero_le _, by first | omega | exact Nat.zero_le _, by omega, by omega, by omega, by omega, by omega, by omega, by omega, by omega, by omega, et (hq58) (et (congrArg (fun q => wire_read_L0 p1 q l24 z25 z26 z27 k28 k29 k30 k31 k32 k33 k34 k35 k36 b37 s38 s39 l42 l45 l49) hd79) (et (iN h80) (et (iN h101) (et (iN h122) (et (iN h143) (et (iN h164) (et (iN h185) (et (iN h206) (et (iN h227) (et (iN h248) (et (iN h269) (et (iN h290) (et (iN h311) (et (iN h331) (et (ip h381) (bnd_of hr389))))))))))))))))⟩) (by show l2.length - (k21 + 1) < l2.length - k21; omega)
 refine jF (dF h381) (sr (Kz (.bool (decide (x77 = 3))) (An rfl ?_)))
 by_cases h405 : x77 = 3
 refine jT (dT h405) (Wp.region (Mz rfl (Mz rfl ?_)))
 obtain ⟨⟨r411, r412⟩, hr413⟩ : ∃ q : (List ResultT) × ReaderT, reader_List_api_Result (ReaderT.mk (Ll.mk l24) z25) 255 = q := ⟨_, rfl⟩
 obtain ⟨D406, HP407, ro408, bk409, rr410⟩ := Own.enter1 H53
 refine cl Tryz.call84 (reader_List_api_Result_ok _ _ g0 (ReaderT.mk (Ll.mk l24) z25) A22 c23 255 r411 r412 HP407 (fun w9 h9 => SubS.rds eB_len (by decide) hi60 ((ro408 _ hx0x0) w9 h9)) (show l24.length ≤ c23 ∧ l24.length ≤ 9223372036854775807 from by omega) (by omega) hr413) ?_
 rintro _ w414 ⟨A417, c418, d419, A421, c422, rfl, HQ415, hd420, hs423, hk424⟩
 have H416 := bk409 _ _ HQ415
 replace hs423 : SubS 1 A22 c23 l24 A421 c422 r412.xrest.ls := hs423
 have hz425 := (hs423).le
 have hl426 := abs_len hd420
 have hb427 := H416.rowC (i := 0) rfl
 replace hk424 : r411.length ≤ 1000 := hk424
 refine Kz (.pointer (some ⟨g1, 0, none⟩)) (Kz (.pointer (some ⟨g1, 19, none⟩)) ?_)
 have H428 := H416.pk [3, 0, 1, 2, 4, 5, 6, 7]
 refine sto [.slice A417 r411.length c418] 19 H428 Tryz.sizeOf26 ?_
 intro w429 H430
 refine WL.nil (bN (bN (Fin.then (Wp.region (fw (.int .i64 ((k21 + 1 : Nat) : Int)) (Yl.int (e := IntKind.i64.wrap (((k21 : Nat) : Int) + 1)) yk (by rw [IntWalk.i64_in _ (by omega)]; omega)) (Mz rfl (WL.nil ?_)))))))
 have H431 := H430.pk [3, 0, 4, 1, 2, 7]
 exact Fin.round (k21 + 1, A421, c422, r412.xrest.ls, r412.xerrno, z26, z27, k28, k29, k30, k31, k32, k33, k34, k35, k36, b37, s38, s39, A40, c41, l42, A417, c418, d419, r411, A47, c48, l49) ⟨rfl, rfl, rfl, rfl, rfl, trivial⟩ (dm57.2 ⟨H431, by exact hd420, by exact (SubS.trans hi60 hs423), by omega, by first | omega | exact Nat.zero_le _, by first | omega | exact Nat.zero_le _, by first | omega | exact Nat.zero_le _, by omega, by omega, by omega, by omega, by omega, by omega, by omega, by omega, by omega, et (hq58) (et (congrArg (fun q => wire_read_L0 p1 q l24 z25 z26 z27 k28 k29 k30 k31 k32 k33 k34 k35 k36 b37 s38 s39 l42 l45 l49) hd79) (et (iN h80) (et (iN h101) (et (iN h122) (et (iN h143) (et (iN h164) (et (iN h185) (et (iN h206) (et (iN h227) (et (iN h248) (et (iN h269) (et (iN h290) (et (iN h311) (et (iN h331) (et (iN h381) (et (ip h405) (bnd_of hr413)))))))))))))))))⟩) (by show l2.length - (k21 + 1) < l2.length - k21; omega)
 refine jF (dF h405) (sr (Kz (.bool (decide (x77 = 11))) (An rfl ?_)))
 by_cases h432 : x77 = 11
 refine jT (dT h432) (Wp.region (Mz rfl (Mz rfl ?_)))
 obtain ⟨⟨r438, r439⟩, hr440⟩ : ∃ q : (List OwnerD) × ReaderT, reader_List_api_Owner (ReaderT.mk (Ll.mk l24) z25) 255 = q := ⟨_, rfl⟩
 obtain ⟨D433, HP434, ro435, bk436, rr437⟩ := Own.enter1 H53
 refine cl Tryz.call86 (reader_List_api_Owner_ok _ _ g0 (ReaderT.mk (Ll.mk l24) z25) A22 c23 255 r438 r439 HP434 (fun w9 h9 => SubS.rds eB_len (by decide) hi60 ((ro435 _ hx0x0) w9 h9)) (show l24.length ≤ c23 ∧ l24.length ≤ 9223372036854775807 from by omega) (by omega) hr440) ?_
 rintro _ w441 ⟨A444, c445, A446, c447, rfl, HQ442, hs448, hk449⟩
 have H443 := bk436 _ _ HQ442
 replace hs448 : SubS 1 A22 c23 l24 A446 c447 r439.xrest.ls := hs448
 have hz450 := (hs448).le
 have hb451 := H443.rowC (i := 0) rfl
 replace hk449 : r438.length ≤ 1000 := hk449
 refine Kz (.pointer (some ⟨g1, 0, none⟩)) (Kz (.pointer (some ⟨g1, 20, none⟩)) ?_)
 have H452 := H443.pk [2, 0, 1, 3, 4, 5, 6]
 refine sto [.slice A444 r438.length c445] 20 H452 Tryz.sizeOf27 ?_
 intro w453 H454
 refine WL.nil (bN (bN (Fin.then (Wp.region (fw (.int .i64 ((k21 + 1 : Nat) : Int)) (Yl.int (e := IntKind.i64.wrap (((k21 : Nat) : Int) + 1)) yk (by rw [IntWalk.i64_in _ (by omega)]; omega)) (Mz rfl (WL.nil ?_)))))))
 have H455 := H454.pk [2, 0, 3, 4, 5, 1]
 exact Fin.round (k21 + 1, A446, c447, r439.xrest.ls, r439.xerrno, z26, z27, k28, k29, k30, k31, k32, k33, k34, k35, k36, b37, s38, s39, A40, c41, l42, A43, c44, d46, l45, A444, c445, r438) ⟨rfl, rfl, rfl, rfl, rfl, trivial⟩ (dm57.2 ⟨H455, by exact hi59, by exact (SubS.trans hi60 hs448), by omega, by first | omega | exact Nat.zero_le _, by first | omega | exact Nat.zero_le _, by first | omega | exact Nat.zero_le _, by omega, by omega, by omega, by omega, by omega, by omega, by omega, by omega, by omega, et (hq58) (et (congrArg (fun q => wire_read_L0 p1 q l24 z25 z26 z27 k28 k29 k30 k31 k32 k33 k34 k35 k36 b37 s38 s39 l42 l45 l49) hd79) (et (iN h80) (et (iN h101) (et (iN h122) (et (iN h143) (et (iN h164) (et (iN h185) (et (iN h206) (et (iN h227) (et (iN h248) (et (iN h269) (et (iN h290) (et (iN h311) (et (iN h331) (et (iN h381) (et (iN h405) (et (ip h432) (bnd_of hr440))))))))))))))))))⟩) (by show l2.length - (k21 + 1) < l2.length - k21; omega)
 refine jF (dF h432) (Wp.skip (bN (bN (Fin.then (Wp.region (fw (.int .i64 ((k21 + 1 : Nat) : Int)) (Yl.int (e := IntKind.i64.wrap (((k21 : Nat) : Int) + 1)) yk (by rw [IntWalk.i64_in _ (by omega)]; omega)) (Mz rfl (WL.nil ?_))))))))
 have H456 := H53.pk [0, 1, 2, 3, 4, 5]
 exact Fin.round (k21 + 1, A22, c23, l24, z25, z26, z27, k28, k29, k30, k31, k32, k33, k34, k35, k36, b37, s38, s39, A40, c41, l42, A43, c44, d46, l45, A47, c48, l49) ⟨rfl, rfl, rfl, rfl, rfl, trivial⟩ (dm57.2 ⟨H456, by exact hi59, by exact hi60, by omega, by first | omega | exact Nat.zero_le _, by first | omega | exact Nat.zero_le _, by first | omega | exact Nat.zero_le _, by omega, by omega, by omega, by omega, by omega, by omega, by omega, by omega, by omega, et (hq58) (et (congrArg (fun q => wire_read_L0 p1 q l24 z25 z26 z27 k28 k29 k30 k31 k32 k33 k34 k35 k36 b37 s38 s39 l42 l45 l49) hd79) (et (iN h80) (et (iN h101) (et (iN h122) (et (iN h143) (et (iN h164) (et (iN h185) (et (iN h206) (et (iN h227) (et (iN h248) (et (iN h269) (et (iN h290) (et (iN h311) (et (iN h331) (et (iN h381) (et (iN h405) (iN h432)))))))))))))))))⟩) (by show l2.length - (k21 + 1) < l2.length - k21; omega)
 refine jF (dF h76) (Wp.exit (Fin.thenX ?_))
 have hL457 : wire_read_L0 p1 l2 p0.xrest.ls p0.xerrno p1.xCode p1.xPeer p1.xReq p1.xBoot p1.xTxn p1.xLow p1.xVer p1.xEpoch p1.xMove p1.xAttempt p1.xN p1.xFlag p1.xRange.xLo p1.xRange.xHi p1.xOps.ls p1.xResults.ls p1.xOwners.ls = (l24, z25, z26, z27, k28, k29, k30, k31, k32, k33, k34, k35, k36, b37, s38, s39, l42, l45, l49) := et (hq58) (et (congrArg (fun q => wire_read_L0 p1 q l24 z25 z26 z27 k28 k29 k30 k31 k32 k33 k34 k35 k36 b37 s38 s39 l42 l45 l49) (drop_end (ls := l2) (i := k21) (by omega))) rfl)
 refine Fin.thenX (Fin.blockX (Fin.res0 (res0 rfl) ?_))
 have H458 := H53.pk [0, 1, 2, 3, 4, 5]
 have e : wire_read p0 p1 l2 = (ReaderT.mk (Ll.mk l24) z25, MsgT.mk p1.xKind p1.xFrom p1.xTo p1.xClient z26 z27 k28 k29 k30 k31 k32 k33 k34 k35 k36 b37 (RangeD.mk s38 s39) (Ll.mk l42) (Ll.mk l45) (Ll.mk l49)) := bnd_of hL457
 obtain ⟨rfl, rfl⟩ := pj2 (e.symm.trans hr)
 exact ⟨A22, c23, A40, c41, A43, c44, d46, A47, c48, rfl, H458, hi60, hi59, (by first | omega | (dsimp only; omega) | (simp only [List.length_nil]; omega) | (refine ⟨?_, ?_⟩ <;> (dsimp only; omega)))⟩
def wire_Decode (l0 : List UInt8) : MsgT × Int :=
 bnd (frame_Open l0) fun yr29 => if yr29.2 = 0 then bnd (reader_New yr29.1) fun yr46 => bnd (reader_Reader_Octet yr46) fun yr61 => bnd (wire_layoutOf ((yr61.1.toNat : Nat) : Int)) fun yr82 => if yr82.2 = true then bnd (reader_Reader_Octet yr61.2) fun yr104 => bnd (reader_Reader_Octet yr104.2) fun yr120 => bnd (wire_read yr120.2 (MsgT.mk ((yr61.1.toNat : Nat) : Int) ((yr104.1.toNat : Nat) : Int) ((yr120.1.toNat : Nat) : Int) 0 0 0 0 0 0 0 0 0 0 0 0 false (RangeD.mk ([]) ([])) (Ll.mk ([])) (Ll.mk ([])) (Ll.mk ([]))) yr82.1.xfields.ls) fun yr146 => bnd (reader_Reader_End yr146.1) fun yr175 => bnd (reader_Reader_Err yr175) fun yr189 => if yr189 = 0 then bnd (wire_Check yr146.2) fun yr201 => if yr201 = 0 then (yr146.2, 0) else (MsgT.mk 0 0 0 0 0 0 0 0 0 0 0 0 0 0 0 false (RangeD.mk ([]) ([])) (Ll.mk ([])) (Ll.mk ([])) (Ll.mk ([])), yr201) else (MsgT.mk 0 0 0 0 0 0 0 0 0 0 0 0 0 0 0 false (RangeD.mk ([]) ([])) (Ll.mk ([])) (Ll.mk ([])) (Ll.mk ([])), yr189) else bnd (reader_Reader_Fail yr61.2 11) fun yr233 => bnd (reader_Reader_Octet yr233) fun yr247 => bnd (reader_Reader_Octet yr247.2) fun yr263 => bnd (wire_read yr263.2 (MsgT.mk ((yr61.1.toNat : Nat) : Int) ((yr247.1.toNat : Nat) : Int) ((yr263.1.toNat : Nat) : Int) 0 0 0 0 0 0 0 0 0 0 0 0 false (RangeD.mk ([]) ([])) (Ll.mk ([])) (Ll.mk ([])) (Ll.mk ([]))) yr82.1.xfields.ls) fun yr289 => bnd (reader_Reader_End yr289.1) fun yr318 => bnd (reader_Reader_Err yr318) fun yr332 => if yr332 = 0 then bnd (wire_Check yr289.2) fun yr344 => if yr344 = 0 then (yr289.2, 0) else (MsgT.mk 0 0 0 0 0 0 0 0 0 0 0 0 0 0 0 false (RangeD.mk ([]) ([])) (Ll.mk ([])) (Ll.mk ([])) (Ll.mk ([])), yr344) else (MsgT.mk 0 0 0 0 0 0 0 0 0 0 0 0 0 0 0 false (RangeD.mk ([]) ([])) (Ll.mk ([])) (Ll.mk ([])) (Ll.mk ([])), yr332) else (MsgT.mk 0 0 0 0 0 0 0 0 0 0 0 0 0 0 0 false (RangeD.mk ([]) ([])) (Ll.mk ([])) (Ll.mk ([])) (Ll.mk ([])), yr29.2)
set_option maxRecDepth 100000 in
set_option maxHeartbeats 4000000 in
theorem wire_Decode_ok (w : World) (D : Nat → Prop) (A0 : Option Addr) (n0 c0 : Nat) (l0 : List UInt8) (r0 : MsgT) (r1 : Int) (H : Own w D w []) (hx0 : Ro w D fun w' => Rds w' 1 A0 n0 (List.flatMap eB l0)) (hn0 : n0 = l0.length) (hl0 : l0.length * 1 ≤ 211106232532992) (hq0 : l0.length ≤ c0) (hr : wire_Decode l0 = (r0, r1)) :
    Calls Tryz.prog 13 #[.slice A0 n0 c0] w (Ret fun v w' => ∃ (B0x0 : Option Addr) (b0x0 : Nat) (B0x1 : Option Addr) (b0x1 : Nat) (B0x2 : Option Addr) (b0x2 : Nat) (e0x1 : List ResultD), v = .tuple #[.agg (MsgP r0 B0x0 b0x0 B0x1 b0x1 B0x2 b0x2).toArray, .int .i64 r1] ∧ Own w D w' [row B0x0 r0.xOps.ls.length b0x0 (List.flatMap OpD.cells r0.xOps.ls) 64 6, row B0x1 r0.xResults.ls.length b0x1 (List.flatMap ResultD.cells e0x1) 84 3, sepL (List.flatMap ResultD.own e0x1), row B0x2 r0.xOwners.ls.length b0x2 (List.flatMap OwnerD.cells r0.xOwners.ls) 88 2] ∧ (List.map ResultD.abs e0x1 = r0.xResults.ls) ∧ (r0.xOps.ls.length ≤ 1000 ∧ r0.xResults.ls.length ≤ 1000 ∧ r0.xOwners.ls.length ≤ 1000 ∧ r0.xReq ≤ 18446744073709551615 ∧ r0.xBoot ≤ 18446744073709551615 ∧ r0.xTxn ≤ 18446744073709551615 ∧ r0.xLow ≤ 18446744073709551615 ∧ r0.xVer ≤ 18446744073709551615 ∧ r0.xEpoch ≤ 18446744073709551615 ∧ r0.xMove ≤ 18446744073709551615 ∧ r0.xAttempt ≤ 18446744073709551615 ∧ r0.xN ≤ 18446744073709551615)) := by
 subst hn0
 refine Calls.body (args := [.slice A0 l0.length c0]) Tryz.func13 rfl rfl rfl ?_
 show Wp _ _ _ [(0, .slice A0 l0.length c0)] _ _
 refine sr ?_
 refine npw (MsgC 0 0 0 0 0 0 0 0 0 0 0 0 0 0 0 false ([]) ([]) none 0 0 none 0 0 none 0 0) 29 H ?_
 intro g21 w22 H23
 refine Ar rfl (Mz rfl ?_)
 obtain ⟨⟨r29, r30⟩, hr31⟩ : ∃ q : (List UInt8) × Int, frame_Open l0 = q := ⟨_, rfl⟩
 obtain ⟨D24, HP25, ro26, bk27, rr28⟩ := Own.enter0 H23
 refine cl Tryz.call37 (frame_Open_ok _ _ A0 l0.length c0 l0 r29 r30 HP25 (ro26 _ hx0) rfl (by omega) (by first | omega | (simp only [List.length_take, List.length_drop]; omega) | exact Nat.le_refl _) hr31) ?_
 rintro _ w32 ⟨A35, c36, rfl, HQ33, hk37⟩
 have H34 := bk27 _ _ HQ33
 have hb38 := H34.rowC (i := 0) rfl
 replace hk37 : r29.length ≤ l0.length := hk37
 refine Mz rfl (Kz (.slice A35 r29.length c36) (Kz (.int .i64 r30) (Az rfl (An rfl (Wp.seq (sr (Mz rfl (fw (.bool (decide (¬ (r30 = 0)))) (Yl.bool (e := !(decide (r30 = 0))) yk decide_not.symm) (nt ?_)))))))))
 by_cases h39 : r30 = 0
 refine jF (dF (not_not_intro h39)) (sk (sr (Mz rfl ?_)))
 have hb45 := H34.rowC (i := 0) rfl
 obtain ⟨r46, hr47⟩ : ∃ q, reader_New r29 = q := ⟨_, rfl⟩
 obtain ⟨D40, HP41, ro42, bk43, rr44⟩ := Own.enter0 H34
 refine cl Tryz.call38 (reader_New_ok _ _ A35 r29.length c36 r29 r46 HP41 (rr44 _ 0 _ rfl row_rds) rfl (by omega) (by first | omega | (simp only [List.length_take, List.length_drop]; omega) | exact Nat.le_refl _) hr47) ?_
 rintro _ w48 ⟨g51, A52, c53, rfl, HQ49, hs54⟩
 have H50 := bk43 _ _ HQ49
 replace hs54 : SubS 1 A35 c36 r29 A52 c53 r46.xrest.ls := hs54
 have hz55 := (hs54).le
 refine Ar rfl (Mz rfl ?_)
 obtain ⟨⟨r61, r62⟩, hr63⟩ : ∃ q : UInt8 × ReaderT, reader_Reader_Octet r46 = q := ⟨_, rfl⟩
 obtain ⟨D56, HP57, ro58, bk59, rr60⟩ := Own.enter1 H50
 refine cl Tryz.call39 (reader_Reader_Octet_ok _ _ g51 r46 A52 c53 r61 r62 HP57 (fun w9 h9 => SubS.rds eB_len (by decide) hs54 ((rr60 _ 0 _ rfl row_rds) w9 h9)) (show r46.xrest.ls.length ≤ c53 ∧ r46.xrest.ls.length ≤ 9223372036854775807 from by omega) hr63) ?_
 rintro _ w64 ⟨A67, c68, rfl, HQ65, hs69⟩
 have H66 := bk59 _ _ HQ65
 replace hs69 : SubS 1 A52 c53 r46.xrest.ls A67 c68 r62.xrest.ls := hs69
 have hz70 := (hs69).le
 have hz71 : r61.toNat ≤ 255 := Nat.le_of_lt_succ (UInt8.toNat_lt _)
 refine fw (.int .i64 ((r61.toNat : Nat) : Int)) (Yl.int (e := IntKind.i64.wrap ((r61.toNat : Nat) : Int)) yk (IntWalk.i64_in _ (by omega))) (Kz (.agg (MsgC ((r61.toNat : Nat) : Int) 0 0 0 0 0 0 0 0 0 0 0 0 0 0 false ([]) ([]) none 0 0 none 0 0 none 0 0).toArray) ?_)
 refine npw (MsgC 0 0 0 0 0 0 0 0 0 0 0 0 0 0 0 false ([]) ([]) none 0 0 none 0 0 none 0 0) 29 H66 ?_
 intro g72 w73 H74
 refine sto (MsgC ((r61.toNat : Nat) : Int) 0 0 0 0 0 0 0 0 0 0 0 0 0 0 false ([]) ([]) none 0 0 none 0 0 none 0 0) 0 H74 Tryz.sizeOf29 ?_
 intro w75 H76
 refine ns (Kz (.pointer (some ⟨g72, 0, none⟩)) (Lz (.int .i64 ((r61.toNat : Nat) : Int)) H76 0 Tryz.isAgg3 ?_))
 obtain ⟨⟨r82, r83⟩, hr84⟩ : ∃ q : layoutT × Bool, wire_layoutOf ((r61.toNat : Nat) : Int) = q := ⟨_, rfl⟩
 obtain ⟨D77, HP78, ro79, bk80, rr81⟩ := Own.enter0 H76
 refine cl Tryz.call19 (wire_layoutOf_ok _ _ ((r61.toNat : Nat) : Int) r82 r83 HP78 hr84) ?_
 rintro _ w85 ⟨A88, c89, rfl, HQ86, hk90⟩
 have H87 := bk80 _ _ HQ86
 have hb91 := H87.rowC (i := 0) rfl
 replace hk90 : r82.xfields.ls.length ≤ 5 := hk90
 refine Mz rfl (Kz (.agg #[.int .i64 r82.xfrom, .int .i64 r82.xto, .slice A88 r82.xfields.ls.length c89]) (Kz (.bool r83) ?_))
 refine npw [.int .i64 0, .int .i64 0, .slice none 0 0] 50 H87 ?_
 intro g92 w93 H94
 refine sto [.int .i64 r82.xfrom, .int .i64 r82.xto, .slice A88 r82.xfields.ls.length c89] 0 H94 Tryz.sizeOf50 ?_
 intro w95 H96
 refine An rfl (Wp.seq (sr (Mz rfl (Kz (.bool (!r83)) (nt ?_)))))
 rcases Bool.eq_false_or_eq_true (r83) with h97 | h97
 refine jF (cn h97) (sk (sr (Mz rfl ?_)))
 have H98 := H96.pk [3, 0, 1, 2, 4, 5]
 obtain ⟨⟨r104, r105⟩, hr106⟩ : ∃ q : UInt8 × ReaderT, reader_Reader_Octet r62 = q := ⟨_, rfl⟩
 obtain ⟨D99, HP100, ro101, bk102, rr103⟩ := Own.enter1 H98
 refine cl Tryz.call39 (reader_Reader_Octet_ok _ _ g51 r62 A67 c68 r104 r105 HP100 (fun w9 h9 => SubS.rds eB_len (by decide) hs69 ((fun w9 h9 => SubS.rds eB_len (by decide) hs54 ((rr103 _ 3 _ rfl row_rds) w9 h9)) w9 h9)) (show r62.xrest.ls.length ≤ c68 ∧ r62.xrest.ls.length ≤ 9223372036854775807 from by omega) hr106) ?_
 rintro _ w107 ⟨A110, c111, rfl, HQ108, hs112⟩
 have H109 := bk102 _ _ HQ108
 replace hs112 : SubS 1 A67 c68 r62.xrest.ls A110 c111 r105.xrest.ls := hs112
 have hz113 := (hs112).le
 have hz114 : r104.toNat ≤ 255 := Nat.le_of_lt_succ (UInt8.toNat_lt _)
 refine fw (.int .i64 ((r104.toNat : Nat) : Int)) (Yl.int (e := IntKind.i64.wrap ((r104.toNat : Nat) : Int)) yk (IntWalk.i64_in _ (by omega))) (Mz rfl ?_)
 obtain ⟨⟨r120, r121⟩, hr122⟩ : ∃ q : UInt8 × ReaderT, reader_Reader_Octet r105 = q := ⟨_, rfl⟩
 obtain ⟨D115, HP116, ro117, bk118, rr119⟩ := Own.enter1 H109
 refine cl Tryz.call39 (reader_Reader_Octet_ok _ _ g51 r105 A110 c111 r120 r121 HP116 (fun w9 h9 => SubS.rds eB_len (by decide) hs112 ((fun w9 h9 => SubS.rds eB_len (by decide) hs69 ((fun w9 h9 => SubS.rds eB_len (by decide) hs54 ((rr119 _ 3 _ rfl row_rds) w9 h9)) w9 h9)) w9 h9)) (show r105.xrest.ls.length ≤ c111 ∧ r105.xrest.ls.length ≤ 9223372036854775807 from by omega) hr122) ?_
 rintro _ w123 ⟨A126, c127, rfl, HQ124, hs128⟩
 have H125 := bk118 _ _ HQ124
 replace hs128 : SubS 1 A110 c111 r105.xrest.ls A126 c127 r121.xrest.ls := hs128
 have hz129 := (hs128).le
 have hz130 : r120.toNat ≤ 255 := Nat.le_of_lt_succ (UInt8.toNat_lt _)
 refine fw (.int .i64 ((r120.toNat : Nat) : Int)) (Yl.int (e := IntKind.i64.wrap ((r120.toNat : Nat) : Int)) yk (IntWalk.i64_in _ (by omega))) (Kz (.pointer (some ⟨g72, 1, none⟩)) ?_)
 have H131 := H125.pk [3, 0, 1, 2, 4, 5]
 refine sto [.int .i64 ((r104.toNat : Nat) : Int)] 1 H131 Tryz.sizeOf3 ?_
 intro w132 H133
 refine Kz (.pointer (some ⟨g72, 2, none⟩)) ?_
 refine sto [.int .i64 ((r120.toNat : Nat) : Int)] 2 H133 Tryz.sizeOf3 ?_
 intro w134 H135
 refine ns (Mz rfl (Kz (.pointer (some ⟨g92, 2, none⟩)) (Lz (.slice A88 r82.xfields.ls.length c89) H135 2 Tryz.isAgg48 ?_)))
 have H136 : Own w D w134 [row none 0 0 (List.flatMap OpD.cells ([])) 64 6, blk g72 (MsgC ((r61.toNat : Nat) : Int) ((r104.toNat : Nat) : Int) ((r120.toNat : Nat) : Int) 0 0 0 0 0 0 0 0 0 0 0 0 false ([]) ([]) none 0 0 none 0 0 none 0 0) 29, blk g51 [.slice A126 r121.xrest.ls.length c127, .int .i64 r121.xerrno] 120, blk g92 [.int .i64 r82.xfrom, .int .i64 r82.xto, .slice A88 r82.xfields.ls.length c89] 50, row A88 r82.xfields.ls.length c89 (List.flatMap (eI .i64) r82.xfields.ls) 93 1, row A35 r29.length c36 (List.flatMap eB r29) 5 1, blk g21 (MsgC 0 0 0 0 0 0 0 0 0 0 0 0 0 0 0 false ([]) ([]) none 0 0 none 0 0 none 0 0) 29] := H135.free (row_nil 64 6)
 have H137 : Own w D w134 [sepL (List.flatMap ResultD.own ([])), row none 0 0 (List.flatMap OpD.cells ([])) 64 6, blk g72 (MsgC ((r61.toNat : Nat) : Int) ((r104.toNat : Nat) : Int) ((r120.toNat : Nat) : Int) 0 0 0 0 0 0 0 0 0 0 0 0 false ([]) ([]) none 0 0 none 0 0 none 0 0) 29, blk g51 [.slice A126 r121.xrest.ls.length c127, .int .i64 r121.xerrno] 120, blk g92 [.int .i64 r82.xfrom, .int .i64 r82.xto, .slice A88 r82.xfields.ls.length c89] 50, row A88 r82.xfields.ls.length c89 (List.flatMap (eI .i64) r82.xfields.ls) 93 1, row A35 r29.length c36 (List.flatMap eB r29) 5 1, blk g21 (MsgC 0 0 0 0 0 0 0 0 0 0 0 0 0 0 0 false ([]) ([]) none 0 0 none 0 0 none 0 0) 29] := H136.sepNil
 have H138 : Own w D w134 [row none 0 0 (List.flatMap ResultD.cells ([])) 84 3, sepL (List.flatMap ResultD.own ([])), row none 0 0 (List.flatMap OpD.cells ([])) 64 6, blk g72 (MsgC ((r61.toNat : Nat) : Int) ((r104.toNat : Nat) : Int) ((r120.toNat : Nat) : Int) 0 0 0 0 0 0 0 0 0 0 0 0 false ([]) ([]) none 0 0 none 0 0 none 0 0) 29, blk g51 [.slice A126 r121.xrest.ls.length c127, .int .i64 r121.xerrno] 120, blk g92 [.int .i64 r82.xfrom, .int .i64 r82.xto, .slice A88 r82.xfields.ls.length c89] 50, row A88 r82.xfields.ls.length c89 (List.flatMap (eI .i64) r82.xfields.ls) 93 1, row A35 r29.length c36 (List.flatMap eB r29) 5 1, blk g21 (MsgC 0 0 0 0 0 0 0 0 0 0 0 0 0 0 0 false ([]) ([]) none 0 0 none 0 0 none 0 0) 29] := H137.free (row_nil 84 3)
 have H139 : Own w D w134 [row none 0 0 (List.flatMap OwnerD.cells ([])) 88 2, row none 0 0 (List.flatMap ResultD.cells ([])) 84 3, sepL (List.flatMap ResultD.own ([])), row none 0 0 (List.flatMap OpD.cells ([])) 64 6, blk g72 (MsgC ((r61.toNat : Nat) : Int) ((r104.toNat : Nat) : Int) ((r120.toNat : Nat) : Int) 0 0 0 0 0 0 0 0 0 0 0 0 false ([]) ([]) none 0 0 none 0 0 none 0 0) 29, blk g51 [.slice A126 r121.xrest.ls.length c127, .int .i64 r121.xerrno] 120, blk g92 [.int .i64 r82.xfrom, .int .i64 r82.xto, .slice A88 r82.xfields.ls.length c89] 50, row A88 r82.xfields.ls.length c89 (List.flatMap (eI .i64) r82.xfields.ls) 93 1, row A35 r29.length c36 (List.flatMap eB r29) 5 1, blk g21 (MsgC 0 0 0 0 0 0 0 0 0 0 0 0 0 0 0 false ([]) ([]) none 0 0 none 0 0 none 0 0) 29] := H138.free (row_nil 88 2)
 have H140 := H139.pk [5, 4, 3, 1, 2, 0, 6, 7, 8, 9]
 obtain ⟨⟨r146, r147⟩, hr148⟩ : ∃ q : ReaderT × MsgT, wire_read r121 (MsgT.mk ((r61.toNat : Nat) : Int) ((r104.toNat : Nat) : Int) ((r120.toNat : Nat) : Int) 0 0 0 0 0 0 0 0 0 0 0 0 false (RangeD.mk ([]) ([])) (Ll.mk ([])) (Ll.mk ([])) (Ll.mk ([]))) r82.xfields.ls = q := ⟨_, rfl⟩
 obtain ⟨D141, HP142, ro143, bk144, rr145⟩ := Own.enter (L1 := [blk g51 [.slice A126 r121.xrest.ls.length c127, .int .i64 r121.xerrno] 120, blk g72 (MsgC ((r61.toNat : Nat) : Int) ((r104.toNat : Nat) : Int) ((r120.toNat : Nat) : Int) 0 0 0 0 0 0 0 0 0 0 0 0 false ([]) ([]) none 0 0 none 0 0 none 0 0) 29, row none 0 0 (List.flatMap OpD.cells ([])) 64 6, row none 0 0 (List.flatMap ResultD.cells ([])) 84 3, sepL (List.flatMap ResultD.own ([])), row none 0 0 (List.flatMap OwnerD.cells ([])) 88 2]) (L2 := [blk g92 [.int .i64 r82.xfrom, .int .i64 r82.xto, .slice A88 r82.xfields.ls.length c89] 50, row A88 r82.xfields.ls.length c89 (List.flatMap (eI .i64) r82.xfields.ls) 93 1, row A35 r29.length c36 (List.flatMap eB r29) 5 1, blk g21 (MsgC 0 0 0 0 0 0 0 0 0 0 0 0 0 0 0 false ([]) ([]) none 0 0 none 0 0 none 0 0) 29]) H140
 refine cl Tryz.call41 (wire_read_ok _ _ g51 r121 A126 c127 g72 (MsgT.mk ((r61.toNat : Nat) : Int) ((r104.toNat : Nat) : Int) ((r120.toNat : Nat) : Int) 0 0 0 0 0 0 0 0 0 0 0 0 false (RangeD.mk ([]) ([])) (Ll.mk ([])) (Ll.mk ([])) (Ll.mk ([]))) none 0 none 0 ([]) none 0 A88 r82.xfields.ls.length c89 r82.xfields.ls r146 r147 HP142 (fun w9 h9 => SubS.rds eB_len (by decide) hs128 ((fun w9 h9 => SubS.rds eB_len (by decide) hs112 ((fun w9 h9 => SubS.rds eB_len (by decide) hs69 ((fun w9 h9 => SubS.rds eB_len (by decide) hs54 ((rr145 _ 2 _ rfl row_rds) w9 h9)) w9 h9)) w9 h9)) w9 h9)) (show r121.xrest.ls.length ≤ c127 ∧ r121.xrest.ls.length ≤ 9223372036854775807 from by omega) rfl (rr145 _ 1 _ rfl row_rds) rfl (by omega) (by first | omega | (dsimp only; omega) | (simp only [List.length_nil]; omega)) hr148) ?_
 rintro _ w149 ⟨A152, c153, A155, c156, A157, c158, d161, A159, c160, rfl, HQ150, hs154, hd162, hk163⟩
 have H151 := bk144 _ _ HQ150
 replace hs154 : SubS 1 A126 c127 r121.xrest.ls A152 c153 r146.xrest.ls := hs154
 have hz164 := (hs154).le
 have hl165 := abs_len hd162
 have hb166 := H151.rowC (i := 2) rfl
 have hb167 := H151.rowC (i := 3) rfl
 have hb168 := H151.rowC (i := 5) rfl
 replace hk163 : r147.xOps.ls.length ≤ 1000 ∧ r147.xResults.ls.length ≤ 1000 ∧ r147.xOwners.ls.length ≤ 1000 ∧ r147.xReq ≤ 18446744073709551615 ∧ r147.xBoot ≤ 18446744073709551615 ∧ r147.xTxn ≤ 18446744073709551615 ∧ r147.xLow ≤ 18446744073709551615 ∧ r147.xVer ≤ 18446744073709551615 ∧ r147.xEpoch ≤ 18446744073709551615 ∧ r147.xMove ≤ 18446744073709551615 ∧ r147.xAttempt ≤ 18446744073709551615 ∧ r147.xN ≤ 18446744073709551615 := hk163
 refine nt (Wp.seq ?_)
 have H169 := H151.pk [0, 1, 2, 3, 4, 5, 8, 9]
 refine Wp.region (Mz rfl ?_)
 obtain ⟨r175, hr176⟩ : ∃ q, reader_Reader_End r146 = q := ⟨_, rfl⟩
 obtain ⟨D170, HP171, ro172, bk173, rr174⟩ := Own.enter1 H169
 refine cl Tryz.call42 (reader_Reader_End_ok _ _ g51 r146 A152 c153 r175 HP171 (fun w9 h9 => SubS.rds eB_len (by decide) hs154 ((fun w9 h9 => SubS.rds eB_len (by decide) hs128 ((fun w9 h9 => SubS.rds eB_len (by decide) hs112 ((fun w9 h9 => SubS.rds eB_len (by decide) hs69 ((fun w9 h9 => SubS.rds eB_len (by decide) hs54 ((rr174 _ 5 _ rfl row_rds) w9 h9)) w9 h9)) w9 h9)) w9 h9)) w9 h9)) (show r146.xrest.ls.length ≤ c153 ∧ r146.xrest.ls.length ≤ 9223372036854775807 from by omega) hr176) ?_
 rintro _ w177 ⟨A180, c181, rfl, HQ178, hs182⟩
 have H179 := bk173 _ _ HQ178
 replace hs182 : SubS 1 A152 c153 r146.xrest.ls A180 c181 r175.xrest.ls := hs182
 have hz183 := (hs182).le
 refine nt (Wp.seq (sr (Mz rfl ?_)))
 obtain ⟨r189, hr190⟩ : ∃ q, reader_Reader_Err r175 = q := ⟨_, rfl⟩
 obtain ⟨D184, HP185, ro186, bk187, rr188⟩ := Own.enter1 H179
 refine cl Tryz.call43 (reader_Reader_Err_ok _ _ g51 r175 A180 c181 r189 HP185 (fun w9 h9 => SubS.rds eB_len (by decide) hs182 ((fun w9 h9 => SubS.rds eB_len (by decide) hs154 ((fun w9 h9 => SubS.rds eB_len (by decide) hs128 ((fun w9 h9 => SubS.rds eB_len (by decide) hs112 ((fun w9 h9 => SubS.rds eB_len (by decide) hs69 ((fun w9 h9 => SubS.rds eB_len (by decide) hs54 ((rr188 _ 5 _ rfl row_rds) w9 h9)) w9 h9)) w9 h9)) w9 h9)) w9 h9)) w9 h9)) (show r175.xrest.ls.length ≤ c181 ∧ r175.xrest.ls.length ≤ 9223372036854775807 from by omega) hr190) ?_
 rintro _ w191 ⟨rfl, HQ192⟩
 have H193 := bk187 _ _ HQ192
 refine An rfl (Wp.seq ?_)
 have H194 := H193.pk [1, 2, 3, 4, 5, 7]
 refine Wp.region (Mz rfl (fw (.bool (decide (¬ (r189 = 0)))) (Yl.bool (e := !(decide (r189 = 0))) yk decide_not.symm) (nt ?_)))
 by_cases h195 : r189 = 0
 refine jF (dF (not_not_intro h195)) (sk (Wp.seq (sr (La (MsgP r147 A155 c156 A157 c158 A159 c160) H194 0 Tryz.isAgg29 Tryz.sizeOf29 ?_))))
 obtain ⟨r201, hr202⟩ : ∃ q, wire_Check r147 = q := ⟨_, rfl⟩
 obtain ⟨D196, HP197, ro198, bk199, rr200⟩ := Own.enter0 H194
 refine cl Tryz.call11 (wire_Check_ok _ _ r147 A155 r147.xOps.ls.length c156 A157 r147.xResults.ls.length c158 d161 A159 r147.xOwners.ls.length c160 r201 HP197 rfl (rr200 _ 1 _ rfl row_rds) (show r147.xOps.ls.length ≤ c156 ∧ r147.xOps.ls.length ≤ 9223372036854775807 from by omega) hd162 rfl (rr200 _ 2 _ rfl row_rds) (show r147.xResults.ls.length ≤ c158 ∧ r147.xResults.ls.length ≤ 9223372036854775807 from by omega) (fun x9 h9 => ⟨rr200 _ 3 _ rfl (sepL_mem (List.mem_flatMap.2 ⟨x9, h9, .head _⟩) row_rds), own_rd (φ := fun _ => _) H194 (i := 3) rfl (sepL_mem (List.mem_flatMap.2 ⟨x9, h9, .head _⟩) row_le2)⟩) rfl (rr200 _ 4 _ rfl row_rds) (show r147.xOwners.ls.length ≤ c160 ∧ r147.xOwners.ls.length ≤ 9223372036854775807 from by omega) (by first | omega | (dsimp only; omega) | (simp only [List.length_nil]; omega)) hr202) ?_
 rintro _ w203 ⟨rfl, HQ204⟩
 have H205 := bk199 _ _ HQ204
 refine Ar rfl (Mz rfl (fw (.bool (decide (¬ (r201 = 0)))) (Yl.bool (e := !(decide (r201 = 0))) yk decide_not.symm) (nt ?_)))
 by_cases h206 : r201 = 0
 refine jF (dF (not_not_intro h206)) (sk (sr (La (MsgP r147 A155 c156 A157 c158 A159 c160) H205 0 Tryz.isAgg29 Tryz.sizeOf29 ?_)))
 have H207 := H205.pk [5, 0, 1, 2, 3, 4]
 refine sto (MsgP r147 A155 c156 A157 c158 A159 c160) 0 H207 Tryz.sizeOf29 ?_
 intro w208 H209
 refine An rfl (rt (Fin.res (resN (vs := [.agg (MsgP r147 A155 c156 A157 c158 A159 c160).toArray, .int .i64 0]) rfl (ResV.cell rfl (Lds.agg (cs := (MsgP r147 A155 c156 A157 c158 A159 c160)) Tryz.isAgg29 Tryz.sizeOf29 ((H209.cls (i := 0) rfl).lit (k := 0) (m := 21) rfl)) (ResV.tmp rfl ResV.nil)) (Nat.le_of_ble_eq_true rfl)) ?_))
 have H210 := H209.pk [2, 3, 4, 5]
 have e : wire_Decode l0 = (r147, 0) := et (bnd_of hr31) (et (ip h39) (et (bnd_of hr47) (et (bnd_of hr63) (et (bnd_of hr84) (et (ip h97) (et (bnd_of hr106) (et (bnd_of hr122) (et (bnd_of hr148) (et (bnd_of hr176) (et (bnd_of hr190) (et (ip h195) (et (bnd_of hr202) (ip h206)))))))))))))
 obtain ⟨rfl, rfl⟩ := pj2 (e.symm.trans hr)
 exact ⟨A155, c156, A157, c158, A159, c160, d161, rfl, H210, hd162, (by first | omega | (dsimp only; omega) | (simp only [List.length_nil]; omega) | (refine ⟨?_, ?_⟩ <;> (dsimp only; omega)))⟩
 refine jT (dT h206) (sr (Kz (.agg (MsgC 0 0 0 0 0 0 0 0 0 0 0 0 0 0 0 false ([]) ([]) none 0 0 none 0 0 none 0 0).toArray) (Mz rfl ?_)))
 have H211 := H205.pk [5, 0, 1, 2, 3, 4]
 refine sto (MsgC 0 0 0 0 0 0 0 0 0 0 0 0 0 0 0 false ([]) ([]) none 0 0 none 0 0 none 0 0) 0 H211 Tryz.sizeOf29 ?_
 intro w212 H213
 refine An rfl (rt (tR (Fin.res (resN (vs := [.agg (MsgC 0 0 0 0 0 0 0 0 0 0 0 0 0 0 0 false ([]) ([]) none 0 0 none 0 0 none 0 0).toArray, .int .i64 r201]) rfl (ResV.cell rfl (Lds.agg (cs := (MsgC 0 0 0 0 0 0 0 0 0 0 0 0 0 0 0 false ([]) ([]) none 0 0 none 0 0 none 0 0)) Tryz.isAgg29 Tryz.sizeOf29 ((H213.cls (i := 0) rfl).lit (k := 0) (m := 21) rfl)) (ResV.tmp rfl ResV.nil)) (Nat.le_of_ble_eq_true rfl)) ?_)))
 have H214 : Own w D w212 [row none 0 0 (List.flatMap OpD.cells ([])) 64 6, blk g21 (MsgC 0 0 0 0 0 0 0 0 0 0 0 0 0 0 0 false ([]) ([]) none 0 0 none 0 0 none 0 0) 29, blk g72 (MsgP r147 A155 c156 A157 c158 A159 c160) 29, row A155 r147.xOps.ls.length c156 (List.flatMap OpD.cells r147.xOps.ls) 64 6, row A157 r147.xResults.ls.length c158 (List.flatMap ResultD.cells d161) 84 3, sepL (List.flatMap ResultD.own d161), row A159 r147.xOwners.ls.length c160 (List.flatMap OwnerD.cells r147.xOwners.ls) 88 2] := H213.free (row_nil 64 6)
 have H215 : Own w D w212 [sepL (List.flatMap ResultD.own ([])), row none 0 0 (List.flatMap OpD.cells ([])) 64 6, blk g21 (MsgC 0 0 0 0 0 0 0 0 0 0 0 0 0 0 0 false ([]) ([]) none 0 0 none 0 0 none 0 0) 29, blk g72 (MsgP r147 A155 c156 A157 c158 A159 c160) 29, row A155 r147.xOps.ls.length c156 (List.flatMap OpD.cells r147.xOps.ls) 64 6, row A157 r147.xResults.ls.length c158 (List.flatMap ResultD.cells d161) 84 3, sepL (List.flatMap ResultD.own d161), row A159 r147.xOwners.ls.length c160 (List.flatMap OwnerD.cells r147.xOwners.ls) 88 2] := H214.sepNil
 have H216 : Own w D w212 [row none 0 0 (List.flatMap ResultD.cells ([])) 84 3, sepL (List.flatMap ResultD.own ([])), row none 0 0 (List.flatMap OpD.cells ([])) 64 6, blk g21 (MsgC 0 0 0 0 0 0 0 0 0 0 0 0 0 0 0 false ([]) ([]) none 0 0 none 0 0 none 0 0) 29, blk g72 (MsgP r147 A155 c156 A157 c158 A159 c160) 29, row A155 r147.xOps.ls.length c156 (List.flatMap OpD.cells r147.xOps.ls) 64 6, row A157 r147.xResults.ls.length c158 (List.flatMap ResultD.cells d161) 84 3, sepL (List.flatMap ResultD.own d161), row A159 r147.xOwners.ls.length c160 (List.flatMap OwnerD.cells r147.xOwners.ls) 88 2] := H215.free (row_nil 84 3)
 have H217 : Own w D w212 [row none 0 0 (List.flatMap OwnerD.cells ([])) 88 2, row none 0 0 (List.flatMap ResultD.cells ([])) 84 3, sepL (List.flatMap ResultD.own ([])), row none 0 0 (List.flatMap OpD.cells ([])) 64 6, blk g21 (MsgC 0 0 0 0 0 0 0 0 0 0 0 0 0 0 0 false ([]) ([]) none 0 0 none 0 0 none 0 0) 29, blk g72 (MsgP r147 A155 c156 A157 c158 A159 c160) 29, row A155 r147.xOps.ls.length c156 (List.flatMap OpD.cells r147.xOps.ls) 64 6, row A157 r147.xResults.ls.length c158 (List.flatMap ResultD.cells d161) 84 3, sepL (List.flatMap ResultD.own d161), row A159 r147.xOwners.ls.length c160 (List.flatMap OwnerD.cells r147.xOwners.ls) 88 2] := H216.free (row_nil 88 2)
 have H218 := H217.pk [3, 1, 2, 0]
 have e : wire_Decode l0 = (MsgT.mk 0 0 0 0 0 0 0 0 0 0 0 0 0 0 0 false (RangeD.mk ([]) ([])) (Ll.mk ([])) (Ll.mk ([])) (Ll.mk ([])), r201) := et (bnd_of hr31) (et (ip h39) (et (bnd_of hr47) (et (bnd_of hr63) (et (bnd_of hr84) (et (ip h97) (et (bnd_of hr106) (et (bnd_of hr122) (et (bnd_of hr148) (et (bnd_of hr176) (et (bnd_of hr190) (et (ip h195) (et (bnd_of hr202) (iN h206)))))))))))))
 obtain ⟨rfl, rfl⟩ := pj2 (e.symm.trans hr)
 exact ⟨none, 0, none, 0, none, 0, [], rfl, H218, rfl, (by first | omega | (dsimp only; omega) | (simp only [List.length_nil]; omega) | (refine ⟨?_, ?_⟩ <;> (dsimp only; omega)))⟩
 refine jT (dT h195) (sr (Kz (.agg (MsgC 0 0 0 0 0 0 0 0 0 0 0 0 0 0 0 false ([]) ([]) none 0 0 none 0 0 none 0 0).toArray) (Mz rfl ?_)))
 have H219 := H194.pk [5, 0, 1, 2, 3, 4]
 refine sto (MsgC 0 0 0 0 0 0 0 0 0 0 0 0 0 0 0 false ([]) ([]) none 0 0 none 0 0 none 0 0) 0 H219 Tryz.sizeOf29 ?_
 intro w220 H221
 refine An rfl (rt (tR (Fin.res (resN (vs := [.agg (MsgC 0 0 0 0 0 0 0 0 0 0 0 0 0 0 0 false ([]) ([]) none 0 0 none 0 0 none 0 0).toArray, .int .i64 r189]) rfl (ResV.cell rfl (Lds.agg (cs := (MsgC 0 0 0 0 0 0 0 0 0 0 0 0 0 0 0 false ([]) ([]) none 0 0 none 0 0 none 0 0)) Tryz.isAgg29 Tryz.sizeOf29 ((H221.cls (i := 0) rfl).lit (k := 0) (m := 21) rfl)) (ResV.tmp rfl ResV.nil)) (Nat.le_of_ble_eq_true rfl)) ?_)))
 have H222 : Own w D w220 [row none 0 0 (List.flatMap OpD.cells ([])) 64 6, blk g21 (MsgC 0 0 0 0 0 0 0 0 0 0 0 0 0 0 0 false ([]) ([]) none 0 0 none 0 0 none 0 0) 29, blk g72 (MsgP r147 A155 c156 A157 c158 A159 c160) 29, row A155 r147.xOps.ls.length c156 (List.flatMap OpD.cells r147.xOps.ls) 64 6, row A157 r147.xResults.ls.length c158 (List.flatMap ResultD.cells d161) 84 3, sepL (List.flatMap ResultD.own d161), row A159 r147.xOwners.ls.length c160 (List.flatMap OwnerD.cells r147.xOwners.ls) 88 2] := H221.free (row_nil 64 6)
 have H223 : Own w D w220 [sepL (List.flatMap ResultD.own ([])), row none 0 0 (List.flatMap OpD.cells ([])) 64 6, blk g21 (MsgC 0 0 0 0 0 0 0 0 0 0 0 0 0 0 0 false ([]) ([]) none 0 0 none 0 0 none 0 0) 29, blk g72 (MsgP r147 A155 c156 A157 c158 A159 c160) 29, row A155 r147.xOps.ls.length c156 (List.flatMap OpD.cells r147.xOps.ls) 64 6, row A157 r147.xResults.ls.length c158 (List.flatMap ResultD.cells d161) 84 3, sepL (List.flatMap ResultD.own d161), row A159 r147.xOwners.ls.length c160 (List.flatMap OwnerD.cells r147.xOwners.ls) 88 2] := H222.sepNil
 have H224 : Own w D w220 [row none 0 0 (List.flatMap ResultD.cells ([])) 84 3, sepL (List.flatMap ResultD.own ([])), row none 0 0 (List.flatMap OpD.cells ([])) 64 6, blk g21 (MsgC 0 0 0 0 0 0 0 0 0 0 0 0 0 0 0 false ([]) ([]) none 0 0 none 0 0 none 0 0) 29, blk g72 (MsgP r147 A155 c156 A157 c158 A159 c160) 29, row A155 r147.xOps.ls.length c156 (List.flatMap OpD.cells r147.xOps.ls) 64 6, row A157 r147.xResults.ls.length c158 (List.flatMap ResultD.cells d161) 84 3, sepL (List.flatMap ResultD.own d161), row A159 r147.xOwners.ls.length c160 (List.flatMap OwnerD.cells r147.xOwners.ls) 88 2] := H223.free (row_nil 84 3)
 have H225 : Own w D w220 [row none 0 0 (List.flatMap OwnerD.cells ([])) 88 2, row none 0 0 (List.flatMap ResultD.cells ([])) 84 3, sepL (List.flatMap ResultD.own ([])), row none 0 0 (List.flatMap OpD.cells ([])) 64 6, blk g21 (MsgC 0 0 0 0 0 0 0 0 0 0 0 0 0 0 0 false ([]) ([]) none 0 0 none 0 0 none 0 0) 29, blk g72 (MsgP r147 A155 c156 A157 c158 A159 c160) 29, row A155 r147.xOps.ls.length c156 (List.flatMap OpD.cells r147.xOps.ls) 64 6, row A157 r147.xResults.ls.length c158 (List.flatMap ResultD.cells d161) 84 3, sepL (List.flatMap ResultD.own d161), row A159 r147.xOwners.ls.length c160 (List.flatMap OwnerD.cells r147.xOwners.ls) 88 2] := H224.free (row_nil 88 2)
 have H226 := H225.pk [3, 1, 2, 0]
 have e : wire_Decode l0 = (MsgT.mk 0 0 0 0 0 0 0 0 0 0 0 0 0 0 0 false (RangeD.mk ([]) ([])) (Ll.mk ([])) (Ll.mk ([])) (Ll.mk ([])), r189) := et (bnd_of hr31) (et (ip h39) (et (bnd_of hr47) (et (bnd_of hr63) (et (bnd_of hr84) (et (ip h97) (et (bnd_of hr106) (et (bnd_of hr122) (et (bnd_of hr148) (et (bnd_of hr176) (et (bnd_of hr190) (iN h195)))))))))))
 obtain ⟨rfl, rfl⟩ := pj2 (e.symm.trans hr)
 exact ⟨none, 0, none, 0, none, 0, [], rfl, H226, rfl, (by first | omega | (dsimp only; omega) | (simp only [List.length_nil]; omega) | (refine ⟨?_, ?_⟩ <;> (dsimp only; omega)))⟩
 refine jT (cn h97) (Wp.region (Mz rfl ?_))
 have H227 := H96.pk [3, 0, 1, 2, 4, 5]
 obtain ⟨r233, hr234⟩ : ∃ q, reader_Reader_Fail r62 11 = q := ⟨_, rfl⟩
 obtain ⟨D228, HP229, ro230, bk231, rr232⟩ := Own.enter1 H227
 refine cl Tryz.call40 (reader_Reader_Fail_ok _ _ g51 r62 A67 c68 11 r233 HP229 (fun w9 h9 => SubS.rds eB_len (by decide) hs69 ((fun w9 h9 => SubS.rds eB_len (by decide) hs54 ((rr232 _ 3 _ rfl row_rds) w9 h9)) w9 h9)) (show r62.xrest.ls.length ≤ c68 ∧ r62.xrest.ls.length ≤ 9223372036854775807 from by omega) hr234) ?_
 rintro _ w235 ⟨A238, c239, rfl, HQ236, hs240⟩
 have H237 := bk231 _ _ HQ236
 replace hs240 : SubS 1 A67 c68 r62.xrest.ls A238 c239 r233.xrest.ls := hs240
 have hz241 := (hs240).le
 refine ns (Mz rfl ?_)
 obtain ⟨⟨r247, r248⟩, hr249⟩ : ∃ q : UInt8 × ReaderT, reader_Reader_Octet r233 = q := ⟨_, rfl⟩
 obtain ⟨D242, HP243, ro244, bk245, rr246⟩ := Own.enter1 H237
 refine cl Tryz.call39 (reader_Reader_Octet_ok _ _ g51 r233 A238 c239 r247 r248 HP243 (fun w9 h9 => SubS.rds eB_len (by decide) hs240 ((fun w9 h9 => SubS.rds eB_len (by decide) hs69 ((fun w9 h9 => SubS.rds eB_len (by decide) hs54 ((rr246 _ 3 _ rfl row_rds) w9 h9)) w9 h9)) w9 h9)) (show r233.xrest.ls.length ≤ c239 ∧ r233.xrest.ls.length ≤ 9223372036854775807 from by omega) hr249) ?_
 rintro _ w250 ⟨A253, c254, rfl, HQ251, hs255⟩
 have H252 := bk245 _ _ HQ251
 replace hs255 : SubS 1 A238 c239 r233.xrest.ls A253 c254 r248.xrest.ls := hs255
 have hz256 := (hs255).le
 have hz257 : r247.toNat ≤ 255 := Nat.le_of_lt_succ (UInt8.toNat_lt _)
 refine fw (.int .i64 ((r247.toNat : Nat) : Int)) (Yl.int (e := IntKind.i64.wrap ((r247.toNat : Nat) : Int)) yk (IntWalk.i64_in _ (by omega))) (Mz rfl ?_)
 obtain ⟨⟨r263, r264⟩, hr265⟩ : ∃ q : UInt8 × ReaderT, reader_Reader_Octet r248 = q := ⟨_, rfl⟩
 obtain ⟨D258, HP259, ro260, bk261, rr262⟩ := Own.enter1 H252
 refine cl Tryz.call39 (reader_Reader_Octet_ok _ _ g51 r248 A253 c254 r263 r264 HP259 (fun w9 h9 => SubS.rds eB_len (by decide) hs255 ((fun w9 h9 => SubS.rds eB_len (by decide) hs240 ((fun w9 h9 => SubS.rds eB_len (by decide) hs69 ((fun w9 h9 => SubS.rds eB_len (by decide) hs54 ((rr262 _ 3 _ rfl row_rds) w9 h9)) w9 h9)) w9 h9)) w9 h9)) (show r248.xrest.ls.length ≤ c254 ∧ r248.xrest.ls.length ≤ 9223372036854775807 from by omega) hr265) ?_
 rintro _ w266 ⟨A269, c270, rfl, HQ267, hs271⟩
 have H268 := bk261 _ _ HQ267
 replace hs271 : SubS 1 A253 c254 r248.xrest.ls A269 c270 r264.xrest.ls := hs271
 have hz272 := (hs271).le
 have hz273 : r263.toNat ≤ 255 := Nat.le_of_lt_succ (UInt8.toNat_lt _)
 refine fw (.int .i64 ((r263.toNat : Nat) : Int)) (Yl.int (e := IntKind.i64.wrap ((r263.toNat : Nat) : Int)) yk (IntWalk.i64_in _ (by omega))) (Kz (.pointer (some ⟨g72, 1, none⟩)) ?_)
 have H274 := H268.pk [3, 0, 1, 2, 4, 5]
 refine sto [.int .i64 ((r247.toNat : Nat) : Int)] 1 H274 Tryz.sizeOf3 ?_
 intro w275 H276
 refine Kz (.pointer (some ⟨g72, 2, none⟩)) ?_
 refine sto [.int .i64 ((r263.toNat : Nat) : Int)] 2 H276 Tryz.sizeOf3 ?_
 intro w277 H278
 refine ns (Mz rfl (Kz (.pointer (some ⟨g92, 2, none⟩)) (Lz (.slice A88 r82.xfields.ls.length c89) H278 2 Tryz.isAgg48 ?_)))
 have H279 : Own w D w277 [row none 0 0 (List.flatMap OpD.cells ([])) 64 6, blk g72 (MsgC ((r61.toNat : Nat) : Int) ((r247.toNat : Nat) : Int) ((r263.toNat : Nat) : Int) 0 0 0 0 0 0 0 0 0 0 0 0 false ([]) ([]) none 0 0 none 0 0 none 0 0) 29, blk g51 [.slice A269 r264.xrest.ls.length c270, .int .i64 r264.xerrno] 120, blk g92 [.int .i64 r82.xfrom, .int .i64 r82.xto, .slice A88 r82.xfields.ls.length c89] 50, row A88 r82.xfields.ls.length c89 (List.flatMap (eI .i64) r82.xfields.ls) 93 1, row A35 r29.length c36 (List.flatMap eB r29) 5 1, blk g21 (MsgC 0 0 0 0 0 0 0 0 0 0 0 0 0 0 0 false ([]) ([]) none 0 0 none 0 0 none 0 0) 29] := H278.free (row_nil 64 6)
 have H280 : Own w D w277 [sepL (List.flatMap ResultD.own ([])), row none 0 0 (List.flatMap OpD.cells ([])) 64 6, blk g72 (MsgC ((r61.toNat : Nat) : Int) ((r247.toNat : Nat) : Int) ((r263.toNat : Nat) : Int) 0 0 0 0 0 0 0 0 0 0 0 0 false ([]) ([]) none 0 0 none 0 0 none 0 0) 29, blk g51 [.slice A269 r264.xrest.ls.length c270, .int .i64 r264.xerrno] 120, blk g92 [.int .i64 r82.xfrom, .int .i64 r82.xto, .slice A88 r82.xfields.ls.length c89] 50, row A88 r82.xfields.ls.length c89 (List.flatMap (eI .i64) r82.xfields.ls) 93 1, row A35 r29.length c36 (List.flatMap eB r29) 5 1, blk g21 (MsgC 0 0 0 0 0 0 0 0 0 0 0 0 0 0 0 false ([]) ([]) none 0 0 none 0 0 none 0 0) 29] := H279.sepNil
 have H281 : Own w D w277 [row none 0 0 (List.flatMap ResultD.cells ([])) 84 3, sepL (List.flatMap ResultD.own ([])), row none 0 0 (List.flatMap OpD.cells ([])) 64 6, blk g72 (MsgC ((r61.toNat : Nat) : Int) ((r247.toNat : Nat) : Int) ((r263.toNat : Nat) : Int) 0 0 0 0 0 0 0 0 0 0 0 0 false ([]) ([]) none 0 0 none 0 0 none 0 0) 29, blk g51 [.slice A269 r264.xrest.ls.length c270, .int .i64 r264.xerrno] 120, blk g92 [.int .i64 r82.xfrom, .int .i64 r82.xto, .slice A88 r82.xfields.ls.length c89] 50, row A88 r82.xfields.ls.length c89 (List.flatMap (eI .i64) r82.xfields.ls) 93 1, row A35 r29.length c36 (List.flatMap eB r29) 5 1, blk g21 (MsgC 0 0 0 0 0 0 0 0 0 0 0 0 0 0 0 false ([]) ([]) none 0 0 none 0 0 none 0 0) 29] := H280.free (row_nil 84 3)
 have H282 : Own w D w277 [row none 0 0 (List.flatMap OwnerD.cells ([])) 88 2, row none 0 0 (List.flatMap ResultD.cells ([])) 84 3, sepL (List.flatMap ResultD.own ([])), row none 0 0 (List.flatMap OpD.cells ([])) 64 6, blk g72 (MsgC ((r61.toNat : Nat) : Int) ((r247.toNat : Nat) : Int) ((r263.toNat : Nat) : Int) 0 0 0 0 0 0 0 0 0 0 0 0 false ([]) ([]) none 0 0 none 0 0 none 0 0) 29, blk g51 [.slice A269 r264.xrest.ls.length c270, .int .i64 r264.xerrno] 120, blk g92 [.int .i64 r82.xfrom, .int .i64 r82.xto, .slice A88 r82.xfields.ls.length c89] 50, row A88 r82.xfields.ls.length c89 (List.flatMap (eI .i64) r82.xfields.ls) 93 1, row A35 r29.length c36 (List.flatMap eB r29) 5 1, blk g21 (MsgC 0 0 0 0 0 0 0 0 0 0 0 0 0 0 0 false ([]) ([]) none 0 0 none 0 0 none 0 0) 29] := H281.free (row_nil 88 2)
 have H283 := H282.pk [5, 4, 3, 1, 2, 0, 6, 7, 8, 9]
 obtain ⟨⟨r289, r290⟩, hr291⟩ : ∃ q : ReaderT × MsgT, wire_read r264 (MsgT.mk ((r61.toNat : Nat) : Int) ((r247.toNat : Nat) : Int) ((r263.toNat : Nat) : Int) 0 0 0 0 0 0 0 0 0 0 0 0 false (RangeD.mk ([]) ([])) (Ll.mk ([])) (Ll.mk ([])) (Ll.mk ([]))) r82.xfields.ls = q := ⟨_, rfl⟩
 obtain ⟨D284, HP285, ro286, bk287, rr288⟩ := Own.enter (L1 := [blk g51 [.slice A269 r264.xrest.ls.length c270, .int .i64 r264.xerrno] 120, blk g72 (MsgC ((r61.toNat : Nat) : Int) ((r247.toNat : Nat) : Int) ((r263.toNat : Nat) : Int) 0 0 0 0 0 0 0 0 0 0 0 0 false ([]) ([]) none 0 0 none 0 0 none 0 0) 29, row none 0 0 (List.flatMap OpD.cells ([])) 64 6, row none 0 0 (List.flatMap ResultD.cells ([])) 84 3, sepL (List.flatMap ResultD.own ([])), row none 0 0 (List.flatMap OwnerD.cells ([])) 88 2]) (L2 := [blk g92 [.int .i64 r82.xfrom, .int .i64 r82.xto, .slice A88 r82.xfields.ls.length c89] 50, row A88 r82.xfields.ls.length c89 (List.flatMap (eI .i64) r82.xfields.ls) 93 1, row A35 r29.length c36 (List.flatMap eB r29) 5 1, blk g21 (MsgC 0 0 0 0 0 0 0 0 0 0 0 0 0 0 0 false ([]) ([]) none 0 0 none 0 0 none 0 0) 29]) H283
 refine cl Tryz.call41 (wire_read_ok _ _ g51 r264 A269 c270 g72 (MsgT.mk ((r61.toNat : Nat) : Int) ((r247.toNat : Nat) : Int) ((r263.toNat : Nat) : Int) 0 0 0 0 0 0 0 0 0 0 0 0 false (RangeD.mk ([]) ([])) (Ll.mk ([])) (Ll.mk ([])) (Ll.mk ([]))) none 0 none 0 ([]) none 0 A88 r82.xfields.ls.length c89 r82.xfields.ls r289 r290 HP285 (fun w9 h9 => SubS.rds eB_len (by decide) hs271 ((fun w9 h9 => SubS.rds eB_len (by decide) hs255 ((fun w9 h9 => SubS.rds eB_len (by decide) hs240 ((fun w9 h9 => SubS.rds eB_len (by decide) hs69 ((fun w9 h9 => SubS.rds eB_len (by decide) hs54 ((rr288 _ 2 _ rfl row_rds) w9 h9)) w9 h9)) w9 h9)) w9 h9)) w9 h9)) (show r264.xrest.ls.length ≤ c270 ∧ r264.xrest.ls.length ≤ 9223372036854775807 from by omega) rfl (rr288 _ 1 _ rfl row_rds) rfl (by omega) (by first | omega | (dsimp only; omega) | (simp only [List.length_nil]; omega)) hr291) ?_
 rintro _ w292 ⟨A295, c296, A298, c299, A300, c301, d304, A302, c303, rfl, HQ293, hs297, hd305, hk306⟩
 have H294 := bk287 _ _ HQ293
 replace hs297 : SubS 1 A269 c270 r264.xrest.ls A295 c296 r289.xrest.ls := hs297
 have hz307 := (hs297).le
 have hl308 := abs_len hd305
 have hb309 := H294.rowC (i := 2) rfl
 have hb310 := H294.rowC (i := 3) rfl
 have hb311 := H294.rowC (i := 5) rfl
 replace hk306 : r290.xOps.ls.length ≤ 1000 ∧ r290.xResults.ls.length ≤ 1000 ∧ r290.xOwners.ls.length ≤ 1000 ∧ r290.xReq ≤ 18446744073709551615 ∧ r290.xBoot ≤ 18446744073709551615 ∧ r290.xTxn ≤ 18446744073709551615 ∧ r290.xLow ≤ 18446744073709551615 ∧ r290.xVer ≤ 18446744073709551615 ∧ r290.xEpoch ≤ 18446744073709551615 ∧ r290.xMove ≤ 18446744073709551615 ∧ r290.xAttempt ≤ 18446744073709551615 ∧ r290.xN ≤ 18446744073709551615 := hk306
 refine nt (Wp.seq ?_)
 have H312 := H294.pk [0, 1, 2, 3, 4, 5, 8, 9]
 refine Wp.region (Mz rfl ?_)
 obtain ⟨r318, hr319⟩ : ∃ q, reader_Reader_End r289 = q := ⟨_, rfl⟩
 obtain ⟨D313, HP314, ro315, bk316, rr317⟩ := Own.enter1 H312
 refine cl Tryz.call42 (reader_Reader_End_ok _ _ g51 r289 A295 c296 r318 HP314 (fun w9 h9 => SubS.rds eB_len (by decide) hs297 ((fun w9 h9 => SubS.rds eB_len (by decide) hs271 ((fun w9 h9 => SubS.rds eB_len (by decide) hs255 ((fun w9 h9 => SubS.rds eB_len (by decide) hs240 ((fun w9 h9 => SubS.rds eB_len (by decide) hs69 ((fun w9 h9 => SubS.rds eB_len (by decide) hs54 ((rr317 _ 5 _ rfl row_rds) w9 h9)) w9 h9)) w9 h9)) w9 h9)) w9 h9)) w9 h9)) (show r289.xrest.ls.length ≤ c296 ∧ r289.xrest.ls.length ≤ 9223372036854775807 from by omega) hr319) ?_
 rintro _ w320 ⟨A323, c324, rfl, HQ321, hs325⟩
 have H322 := bk316 _ _ HQ321
 replace hs325 : SubS 1 A295 c296 r289.xrest.ls A323 c324 r318.xrest.ls := hs325
 have hz326 := (hs325).le
 refine nt (Wp.seq (sr (Mz rfl ?_)))
 obtain ⟨r332, hr333⟩ : ∃ q, reader_Reader_Err r318 = q := ⟨_, rfl⟩
 obtain ⟨D327, HP328, ro329, bk330, rr331⟩ := Own.enter1 H322
 refine cl Tryz.call43 (reader_Reader_Err_ok _ _ g51 r318 A323 c324 r332 HP328 (fun w9 h9 => SubS.rds eB_len (by decide) hs325 ((fun w9 h9 => SubS.rds eB_len (by decide) hs297 ((fun w9 h9 => SubS.rds eB_len (by decide) hs271 ((fun w9 h9 => SubS.rds eB_len (by decide) hs255 ((fun w9 h9 => SubS.rds eB_len (by decide) hs240 ((fun w9 h9 => SubS.rds eB_len (by decide) hs69 ((fun w9 h9 => SubS.rds eB_len (by decide) hs54 ((rr331 _ 5 _ rfl row_rds) w9 h9)) w9 h9)) w9 h9)) w9 h9)) w9 h9)) w9 h9)) w9 h9)) (show r318.xrest.ls.length ≤ c324 ∧ r318.xrest.ls.length ≤ 9223372036854775807 from by omega) hr333) ?_
 rintro _ w334 ⟨rfl, HQ335⟩
 have H336 := bk330 _ _ HQ335
 refine An rfl (Wp.seq ?_)
 have H337 := H336.pk [1, 2, 3, 4, 5, 7]
 refine Wp.region (Mz rfl (fw (.bool (decide (¬ (r332 = 0)))) (Yl.bool (e := !(decide (r332 = 0))) yk decide_not.symm) (nt ?_)))
 by_cases h338 : r332 = 0
 refine jF (dF (not_not_intro h338)) (sk (Wp.seq (sr (La (MsgP r290 A298 c299 A300 c301 A302 c303) H337 0 Tryz.isAgg29 Tryz.sizeOf29 ?_))))
 obtain ⟨r344, hr345⟩ : ∃ q, wire_Check r290 = q := ⟨_, rfl⟩
 obtain ⟨D339, HP340, ro341, bk342, rr343⟩ := Own.enter0 H337
 refine cl Tryz.call11 (wire_Check_ok _ _ r290 A298 r290.xOps.ls.length c299 A300 r290.xResults.ls.length c301 d304 A302 r290.xOwners.ls.length c303 r344 HP340 rfl (rr343 _ 1 _ rfl row_rds) (show r290.xOps.ls.length ≤ c299 ∧ r290.xOps.ls.length ≤ 9223372036854775807 from by omega) hd305 rfl (rr343 _ 2 _ rfl row_rds) (show r290.xResults.ls.length ≤ c301 ∧ r290.xResults.ls.length ≤ 9223372036854775807 from by omega) (fun x9 h9 => ⟨rr343 _ 3 _ rfl (sepL_mem (List.mem_flatMap.2 ⟨x9, h9, .head _⟩) row_rds), own_rd (φ := fun _ => _) H337 (i := 3) rfl (sepL_mem (List.mem_flatMap.2 ⟨x9, h9, .head _⟩) row_le2)⟩) rfl (rr343 _ 4 _ rfl row_rds) (show r290.xOwners.ls.length ≤ c303 ∧ r290.xOwners.ls.length ≤ 9223372036854775807 from by omega) (by first | omega | (dsimp only; omega) | (simp only [List.length_nil]; omega)) hr345) ?_
 rintro _ w346 ⟨rfl, HQ347⟩
 have H348 := bk342 _ _ HQ347
 refine Ar rfl (Mz rfl (fw (.bool (decide (¬ (r344 = 0)))) (Yl.bool (e := !(decide (r344 = 0))) yk decide_not.symm) (nt ?_)))
 by_cases h349 : r344 = 0
 refine jF (dF (not_not_intro h349)) (sk (sr (La (MsgP r290 A298 c299 A300 c301 A302 c303) H348 0 Tryz.isAgg29 Tryz.sizeOf29 ?_)))
 have H350 := H348.pk [5, 0, 1, 2, 3, 4]
 refine sto (MsgP r290 A298 c299 A300 c301 A302 c303) 0 H350 Tryz.sizeOf29 ?_
 intro w351 H352
 refine An rfl (rt (Fin.res (resN (vs := [.agg (MsgP r290 A298 c299 A300 c301 A302 c303).toArray, .int .i64 0]) rfl (ResV.cell rfl (Lds.agg (cs := (MsgP r290 A298 c299 A300 c301 A302 c303)) Tryz.isAgg29 Tryz.sizeOf29 ((H352.cls (i := 0) rfl).lit (k := 0) (m := 21) rfl)) (ResV.tmp rfl ResV.nil)) (Nat.le_of_ble_eq_true rfl)) ?_))
 have H353 := H352.pk [2, 3, 4, 5]
 have e : wire_Decode l0 = (r290, 0) := et (bnd_of hr31) (et (ip h39) (et (bnd_of hr47) (et (bnd_of hr63) (et (bnd_of hr84) (et (ifF h97) (et (bnd_of hr234) (et (bnd_of hr249) (et (bnd_of hr265) (et (bnd_of hr291) (et (bnd_of hr319) (et (bnd_of hr333) (et (ip h338) (et (bnd_of hr345) (ip h349))))))))))))))
 obtain ⟨rfl, rfl⟩ := pj2 (e.symm.trans hr)
 exact ⟨A298, c299, A300, c301, A302, c303, d304, rfl, H353, hd305, (by first | omega | (dsimp only; omega) | (simp only [List.length_nil]; omega) | (refine ⟨?_, ?_⟩ <;> (dsimp only; omega)))⟩
 refine jT (dT h349) (sr (Kz (.agg (MsgC 0 0 0 0 0 0 0 0 0 0 0 0 0 0 0 false ([]) ([]) none 0 0 none 0 0 none 0 0).toArray) (Mz rfl ?_)))
 have H354 := H348.pk [5, 0, 1, 2, 3, 4]
 refine sto (MsgC 0 0 0 0 0 0 0 0 0 0 0 0 0 0 0 false ([]) ([]) none 0 0 none 0 0 none 0 0) 0 H354 Tryz.sizeOf29 ?_
 intro w355 H356
 refine An rfl (rt (tR (Fin.res (resN (vs := [.agg (MsgC 0 0 0 0 0 0 0 0 0 0 0 0 0 0 0 false ([]) ([]) none 0 0 none 0 0 none 0 0).toArray, .int .i64 r344]) rfl (ResV.cell rfl (Lds.agg (cs := (MsgC 0 0 0 0 0 0 0 0 0 0 0 0 0 0 0 false ([]) ([]) none 0 0 none 0 0 none 0 0)) Tryz.isAgg29 Tryz.sizeOf29 ((H356.cls (i := 0) rfl).lit (k := 0) (m := 21) rfl)) (ResV.tmp rfl ResV.nil)) (Nat.le_of_ble_eq_true rfl)) ?_)))
 have H357 : Own w D w355 [row none 0 0 (List.flatMap OpD.cells ([])) 64 6, blk g21 (MsgC 0 0 0 0 0 0 0 0 0 0 0 0 0 0 0 false ([]) ([]) none 0 0 none 0 0 none 0 0) 29, blk g72 (MsgP r290 A298 c299 A300 c301 A302 c303) 29, row A298 r290.xOps.ls.length c299 (List.flatMap OpD.cells r290.xOps.ls) 64 6, row A300 r290.xResults.ls.length c301 (List.flatMap ResultD.cells d304) 84 3, sepL (List.flatMap ResultD.own d304), row A302 r290.xOwners.ls.length c303 (List.flatMap OwnerD.cells r290.xOwners.ls) 88 2] := H356.free (row_nil 64 6)
 have H358 : Own w D w355 [sepL (List.flatMap ResultD.own ([])), row none 0 0 (List.flatMap OpD.cells ([])) 64 6, blk g21 (MsgC 0 0 0 0 0 0 0 0 0 0 0 0 0 0 0 false ([]) ([]) none 0 0 none 0 0 none 0 0) 29, blk g72 (MsgP r290 A298 c299 A300 c301 A302 c303) 29, row A298 r290.xOps.ls.length c299 (List.flatMap OpD.cells r290.xOps.ls) 64 6, row A300 r290.xResults.ls.length c301 (List.flatMap ResultD.cells d304) 84 3, sepL (List.flatMap ResultD.own d304), row A302 r290.xOwners.ls.length c303 (List.flatMap OwnerD.cells r290.xOwners.ls) 88 2] := H357.sepNil
 have H359 : Own w D w355 [row none 0 0 (List.flatMap ResultD.cells ([])) 84 3, sepL (List.flatMap ResultD.own ([])), row none 0 0 (List.flatMap OpD.cells ([])) 64 6, blk g21 (MsgC 0 0 0 0 0 0 0 0 0 0 0 0 0 0 0 false ([]) ([]) none 0 0 none 0 0 none 0 0) 29, blk g72 (MsgP r290 A298 c299 A300 c301 A302 c303) 29, row A298 r290.xOps.ls.length c299 (List.flatMap OpD.cells r290.xOps.ls) 64 6, row A300 r290.xResults.ls.length c301 (List.flatMap ResultD.cells d304) 84 3, sepL (List.flatMap ResultD.own d304), row A302 r290.xOwners.ls.length c303 (List.flatMap OwnerD.cells r290.xOwners.ls) 88 2] := H358.free (row_nil 84 3)
 have H360 : Own w D w355 [row none 0 0 (List.flatMap OwnerD.cells ([])) 88 2, row none 0 0 (List.flatMap ResultD.cells ([])) 84 3, sepL (List.flatMap ResultD.own ([])), row none 0 0 (List.flatMap OpD.cells ([])) 64 6, blk g21 (MsgC 0 0 0 0 0 0 0 0 0 0 0 0 0 0 0 false ([]) ([]) none 0 0 none 0 0 none 0 0) 29, blk g72 (MsgP r290 A298 c299 A300 c301 A302 c303) 29, row A298 r290.xOps.ls.length c299 (List.flatMap OpD.cells r290.xOps.ls) 64 6, row A300 r290.xResults.ls.length c301 (List.flatMap ResultD.cells d304) 84 3, sepL (List.flatMap ResultD.own d304), row A302 r290.xOwners.ls.length c303 (List.flatMap OwnerD.cells r290.xOwners.ls) 88 2] := H359.free (row_nil 88 2)
 have H361 := H360.pk [3, 1, 2, 0]
 have e : wire_Decode l0 = (MsgT.mk 0 0 0 0 0 0 0 0 0 0 0 0 0 0 0 false (RangeD.mk ([]) ([])) (Ll.mk ([])) (Ll.mk ([])) (Ll.mk ([])), r344) := et (bnd_of hr31) (et (ip h39) (et (bnd_of hr47) (et (bnd_of hr63) (et (bnd_of hr84) (et (ifF h97) (et (bnd_of hr234) (et (bnd_of hr249) (et (bnd_of hr265) (et (bnd_of hr291) (et (bnd_of hr319) (et (bnd_of hr333) (et (ip h338) (et (bnd_of hr345) (iN h349))))))))))))))
 obtain ⟨rfl, rfl⟩ := pj2 (e.symm.trans hr)
 exact ⟨none, 0, none, 0, none, 0, [], rfl, H361, rfl, (by first | omega | (dsimp only; omega) | (simp only [List.length_nil]; omega) | (refine ⟨?_, ?_⟩ <;> (dsimp only; omega)))⟩
 refine jT (dT h338) (sr (Kz (.agg (MsgC 0 0 0 0 0 0 0 0 0 0 0 0 0 0 0 false ([]) ([]) none 0 0 none 0 0 none 0 0).toArray) (Mz rfl ?_)))
 have H362 := H337.pk [5, 0, 1, 2, 3, 4]
 refine sto (MsgC 0 0 0 0 0 0 0 0 0 0 0 0 0 0 0 false ([]) ([]) none 0 0 none 0 0 none 0 0) 0 H362 Tryz.sizeOf29 ?_
 intro w363 H364
 refine An rfl (rt (tR (Fin.res (resN (vs := [.agg (MsgC 0 0 0 0 0 0 0 0 0 0 0 0 0 0 0 false ([]) ([]) none 0 0 none 0 0 none 0 0).toArray, .int .i64 r332]) rfl (ResV.cell rfl (Lds.agg (cs := (MsgC 0 0 0 0 0 0 0 0 0 0 0 0 0 0 0 false ([]) ([]) none 0 0 none 0 0 none 0 0)) Tryz.isAgg29 Tryz.sizeOf29 ((H364.cls (i := 0) rfl).lit (k := 0) (m := 21) rfl)) (ResV.tmp rfl ResV.nil)) (Nat.le_of_ble_eq_true rfl)) ?_)))
 have H365 : Own w D w363 [row none 0 0 (List.flatMap OpD.cells ([])) 64 6, blk g21 (MsgC 0 0 0 0 0 0 0 0 0 0 0 0 0 0 0 false ([]) ([]) none 0 0 none 0 0 none 0 0) 29, blk g72 (MsgP r290 A298 c299 A300 c301 A302 c303) 29, row A298 r290.xOps.ls.length c299 (List.flatMap OpD.cells r290.xOps.ls) 64 6, row A300 r290.xResults.ls.length c301 (List.flatMap ResultD.cells d304) 84 3, sepL (List.flatMap ResultD.own d304), row A302 r290.xOwners.ls.length c303 (List.flatMap OwnerD.cells r290.xOwners.ls) 88 2] := H364.free (row_nil 64 6)
 have H366 : Own w D w363 [sepL (List.flatMap ResultD.own ([])), row none 0 0 (List.flatMap OpD.cells ([])) 64 6, blk g21 (MsgC 0 0 0 0 0 0 0 0 0 0 0 0 0 0 0 false ([]) ([]) none 0 0 none 0 0 none 0 0) 29, blk g72 (MsgP r290 A298 c299 A300 c301 A302 c303) 29, row A298 r290.xOps.ls.length c299 (List.flatMap OpD.cells r290.xOps.ls) 64 6, row A300 r290.xResults.ls.length c301 (List.flatMap ResultD.cells d304) 84 3, sepL (List.flatMap ResultD.own d304), row A302 r290.xOwners.ls.length c303 (List.flatMap OwnerD.cells r290.xOwners.ls) 88 2] := H365.sepNil
 have H367 : Own w D w363 [row none 0 0 (List.flatMap ResultD.cells ([])) 84 3, sepL (List.flatMap ResultD.own ([])), row none 0 0 (List.flatMap OpD.cells ([])) 64 6, blk g21 (MsgC 0 0 0 0 0 0 0 0 0 0 0 0 0 0 0 false ([]) ([]) none 0 0 none 0 0 none 0 0) 29, blk g72 (MsgP r290 A298 c299 A300 c301 A302 c303) 29, row A298 r290.xOps.ls.length c299 (List.flatMap OpD.cells r290.xOps.ls) 64 6, row A300 r290.xResults.ls.length c301 (List.flatMap ResultD.cells d304) 84 3, sepL (List.flatMap ResultD.own d304), row A302 r290.xOwners.ls.length c303 (List.flatMap OwnerD.cells r290.xOwners.ls) 88 2] := H366.free (row_nil 84 3)
 have H368 : Own w D w363 [row none 0 0 (List.flatMap OwnerD.cells ([])) 88 2, row none 0 0 (List.flatMap ResultD.cells ([])) 84 3, sepL (List.flatMap ResultD.own ([])), row none 0 0 (List.flatMap OpD.cells ([])) 64 6, blk g21 (MsgC 0 0 0 0 0 0 0 0 0 0 0 0 0 0 0 false ([]) ([]) none 0 0 none 0 0 none 0 0) 29, blk g72 (MsgP r290 A298 c299 A300 c301 A302 c303) 29, row A298 r290.xOps.ls.length c299 (List.flatMap OpD.cells r290.xOps.ls) 64 6, row A300 r290.xResults.ls.length c301 (List.flatMap ResultD.cells d304) 84 3, sepL (List.flatMap ResultD.own d304), row A302 r290.xOwners.ls.length c303 (List.flatMap OwnerD.cells r290.xOwners.ls) 88 2] := H367.free (row_nil 88 2)
 have H369 := H368.pk [3, 1, 2, 0]
 have e : wire_Decode l0 = (MsgT.mk 0 0 0 0 0 0 0 0 0 0 0 0 0 0 0 false (RangeD.mk ([]) ([])) (Ll.mk ([])) (Ll.mk ([])) (Ll.mk ([])), r332) := et (bnd_of hr31) (et (ip h39) (et (bnd_of hr47) (et (bnd_of hr63) (et (bnd_of hr84) (et (ifF h97) (et (bnd_of hr234) (et (bnd_of hr249) (et (bnd_of hr265) (et (bnd_of hr291) (et (bnd_of hr319) (et (bnd_of hr333) (iN h338))))))))))))
 obtain ⟨rfl, rfl⟩ := pj2 (e.symm.trans hr)
 exact ⟨none, 0, none, 0, none, 0, [], rfl, H369, rfl, (by first | omega | (dsimp only; omega) | (simp only [List.length_nil]; omega) | (refine ⟨?_, ?_⟩ <;> (dsimp only; omega)))⟩
 refine jT (dT h39) (sr (Kz (.agg (MsgC 0 0 0 0 0 0 0 0 0 0 0 0 0 0 0 false ([]) ([]) none 0 0 none 0 0 none 0 0).toArray) (Mz rfl ?_)))
 have H370 := H34.pk [1, 0]
 refine sto (MsgC 0 0 0 0 0 0 0 0 0 0 0 0 0 0 0 false ([]) ([]) none 0 0 none 0 0 none 0 0) 0 H370 Tryz.sizeOf29 ?_
 intro w371 H372
 refine An rfl (rt (tR (Fin.res (resN (vs := [.agg (MsgC 0 0 0 0 0 0 0 0 0 0 0 0 0 0 0 false ([]) ([]) none 0 0 none 0 0 none 0 0).toArray, .int .i64 r30]) rfl (ResV.cell rfl (Lds.agg (cs := (MsgC 0 0 0 0 0 0 0 0 0 0 0 0 0 0 0 false ([]) ([]) none 0 0 none 0 0 none 0 0)) Tryz.isAgg29 Tryz.sizeOf29 ((H372.cls (i := 0) rfl).lit (k := 0) (m := 21) rfl)) (ResV.tmp rfl ResV.nil)) (Nat.le_of_ble_eq_true rfl)) ?_)))
 have H373 : Own w D w371 [row none 0 0 (List.flatMap OpD.cells ([])) 64 6, blk g21 (MsgC 0 0 0 0 0 0 0 0 0 0 0 0 0 0 0 false ([]) ([]) none 0 0 none 0 0 none 0 0) 29, row A35 r29.length c36 (List.flatMap eB r29) 5 1] := H372.free (row_nil 64 6)
 have H374 : Own w D w371 [sepL (List.flatMap ResultD.own ([])), row none 0 0 (List.flatMap OpD.cells ([])) 64 6, blk g21 (MsgC 0 0 0 0 0 0 0 0 0 0 0 0 0 0 0 false ([]) ([]) none 0 0 none 0 0 none 0 0) 29, row A35 r29.length c36 (List.flatMap eB r29) 5 1] := H373.sepNil
 have H375 : Own w D w371 [row none 0 0 (List.flatMap ResultD.cells ([])) 84 3, sepL (List.flatMap ResultD.own ([])), row none 0 0 (List.flatMap OpD.cells ([])) 64 6, blk g21 (MsgC 0 0 0 0 0 0 0 0 0 0 0 0 0 0 0 false ([]) ([]) none 0 0 none 0 0 none 0 0) 29, row A35 r29.length c36 (List.flatMap eB r29) 5 1] := H374.free (row_nil 84 3)
 have H376 : Own w D w371 [row none 0 0 (List.flatMap OwnerD.cells ([])) 88 2, row none 0 0 (List.flatMap ResultD.cells ([])) 84 3, sepL (List.flatMap ResultD.own ([])), row none 0 0 (List.flatMap OpD.cells ([])) 64 6, blk g21 (MsgC 0 0 0 0 0 0 0 0 0 0 0 0 0 0 0 false ([]) ([]) none 0 0 none 0 0 none 0 0) 29, row A35 r29.length c36 (List.flatMap eB r29) 5 1] := H375.free (row_nil 88 2)
 have H377 := H376.pk [3, 1, 2, 0]
 have e : wire_Decode l0 = (MsgT.mk 0 0 0 0 0 0 0 0 0 0 0 0 0 0 0 false (RangeD.mk ([]) ([])) (Ll.mk ([])) (Ll.mk ([])) (Ll.mk ([])), r30) := et (bnd_of hr31) (iN h39)
 obtain ⟨rfl, rfl⟩ := pj2 (e.symm.trans hr)
 exact ⟨none, 0, none, 0, none, 0, [], rfl, H377, rfl, (by first | omega | (dsimp only; omega) | (simp only [List.length_nil]; omega) | (refine ⟨?_, ?_⟩ <;> (dsimp only; omega)))⟩
end Go.Proofs.YtccjclalngabhaaGreat
