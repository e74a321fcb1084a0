/-
 locks: rows taken out and put in.
-/
import Derived.Test.YtggnajpokhaaiaaLa
namespace Go.Proofs.Ytggnajpokhaaiaa
open Go.RowKit
set_option linter.unusedVariables false
set_option linter.unusedSectionVars false
set_option linter.unusedSimpArgs false
def slices_Delete_locks_row_locks_row (l0 : List rowD) (p1 : Int) (p2 : Int) : (List rowD) :=
 if p1 = p2 then l0 else (List.take (Int.toNat p1) l0 ++ List.drop (Int.toNat p2) l0)
set_option maxRecDepth 100000 in
theorem slices_Delete_locks_row_locks_row_ok (w : World) (D : Nat → Prop) (A0 : Option Addr) (n0 c0 : Nat) (l0 : List rowD) (p1 : Int) (p2 : Int) (r0 : List rowD) (H : Own w D w [row A0 n0 c0 (List.flatMap rowD.cells l0) 72 6]) (hn0 : n0 = l0.length) (hl0 : l0.length * 80 ≤ 211106232532992) (hh0 : 0 ≤ p1 ∧ p1 ≤ p2 ∧ p2 ≤ ((l0.length : Nat) : Int)) (hr : slices_Delete_locks_row_locks_row l0 p1 p2 = r0) :
    Calls Try.prog 58 #[.slice A0 n0 c0, .int .i64 p1, .int .i64 p2] w (Ret fun v w' => ∃ (B0 : Option Addr) (b0 : Nat), v = .slice B0 r0.length b0 ∧ Own w D w' [row B0 r0.length b0 (List.flatMap rowD.cells r0) 72 6] ∧ (r0.length ≤ l0.length)) := by
 subst hn0
 have hc0 := H.rowC (i := 0) rfl
 refine Calls.body (args := [.slice A0 l0.length c0, .int .i64 p1, .int .i64 p2]) Try.func58 rfl rfl rfl ?_
 show Wp _ _ _ [(0, .slice A0 l0.length c0), (1, .int .i64 p1), (2, .int .i64 p2)] _ _
 refine sr (Ar rfl (Mz rfl (fw (.int .i64 ((Int.toNat p1 : Nat) : Int)) (Yl.int (e := p1) (Yl.move rfl) (by omega)) (fw (.int .i64 ((Int.toNat p2 : Nat) : Int)) (Yl.int (e := p2) (Yl.move rfl) (by omega)) (Mz rfl (Kz (.int .i64 ((l0.length : Nat) : Int)) ?_))))))
 refine WL.do rfl (Do.cut4 (El57) rfl rfl rfl rfl (by omega) (by omega) (by omega) ?_)
 intro B21
 refine nt (Wp.seq (sr (Mz rfl (Mz rfl (Kz (.bool (decide (p1 = p2))) (nt ?_))))))
 by_cases h22 : p1 = p2
 refine jT (dT h22) (sr (Mz rfl (An rfl (rt (tR (rs ?_))))))
 have H23 : Own w D w [row A0 l0.length c0 (List.flatMap rowD.cells l0) 72 6] := H.pk [0]
 obtain rfl : _ = l0 := hr.symm.trans (ip h22)
 exact ⟨A0, c0, rfl, H23, (by omega)⟩
 refine jF (dF h22) (sk (sr (Mz rfl (Kz (.int .i64 ((l0.length : Nat) : Int)) (An rfl (Wp.seq ?_))))))
 have H25 := H.drew
 refine Wp.drawnX [6] (fun W => ∃ L', Own w D W ([row A0 l0.length c0 (List.flatMap rowD.cells l0) 72 6] ++ L')) (by kernel_rfl) (by kernel_rfl) (NoP.then NoP.base) ⟨_, H25⟩ ?_
 revert H25
 generalize World.drew w = w24
 intro H25
 refine GX.take (v := .slice A0 l0.length c0) (rs := [[2]]) 0 rfl (by kernel_rfl) (fun _ _ => Yl.move rfl) (GX.take (v := .int .i64 ((Int.toNat p1 : Nat) : Int)) (rs := [[2]]) 1 rfl (by kernel_rfl) (fun _ _ => Yl.int (e := p1) (Yl.move rfl) (by omega)) (GX.take (v := .slice A0 (Int.toNat p1) c0) (rs := [[]]) 2 rfl (by kernel_rfl) (fun _ _ => Yl.cutTo (El57) rfl rfl (by omega)) (GX.take (v := .slice A0 l0.length c0) (rs := [[5]]) 3 rfl (by kernel_rfl) (fun _ _ => Yl.move rfl) (GX.take (v := .int .i64 ((Int.toNat p2 : Nat) : Int)) (rs := [[5]]) 4 rfl (by kernel_rfl) (fun _ _ => Yl.int (e := p2) (Yl.move rfl) (by omega)) (GX.take (v := .slice (cutA A0 (Int.toNat p2) 6 c0) (l0.length - (Int.toNat p2)) (c0 - (Int.toNat p2))) (rs := [[]]) 5 rfl (by kernel_rfl) (fun _ _ => Yl.cutFrom (El57) rfl rfl (by omega)) ?_)))))
 have hl26 : List.length (List.take (Int.toNat p1) l0 ++ List.drop (Int.toNat p2) l0) = Int.toNat p1 + (l0.length - Int.toNat p2) := by simp only [List.length_append, List.length_take, List.length_drop]; omega
 have hp27 : Src Try.prog 6 57 (.slice (cutA A0 (Int.toNat p2) 6 c0) (l0.length - (Int.toNat p2)) (c0 - (Int.toNat p2))) (l0.length - Int.toNat p2) (List.flatMap rowD.cells (List.drop (Int.toNat p2) l0)) w24 := src_of Try.underlying57 (Rds.fromE (lo := Int.toNat p2) rowD.len (H25.rds (i := 0) rfl) (by omega) (by omega) (by decide)) (flat_one rowD.one (List.drop (Int.toNat p2) l0))
 obtain ⟨sp28, hsp29, H30⟩ := H25.rowFull
 refine GX.do 6 rfl (by kernel_rfl) (Do.appendRoom (k := Int.toNat p1) (m := l0.length - Int.toNat p2) (El57) H30 rfl rfl hp27 (by omega) (s := List.length (List.take (Int.toNat p1) l0 ++ List.drop (Int.toNat p2) l0)) (by omega) ?_)
 intro w31 H32
 refine ⟨.inl (by kernel_rfl), ?_⟩
 refine GX.takeA (v := .slice A0 (List.length (List.take (Int.toNat p1) l0 ++ List.drop (Int.toNat p2) l0)) c0) 7 rfl (by kernel_rfl) (fun _ => Yl.assign rfl) (GX.done (by kernel_rfl) (Fin.then (sr (Mz rfl (Mz rfl (Kz (.int .i64 ((List.length (List.take (Int.toNat p1) l0 ++ List.drop (Int.toNat p2) l0) : Nat) : Int)) (Mz rfl (fw (.slice (cutA A0 (List.length (List.take (Int.toNat p1) l0 ++ List.drop (Int.toNat p2) l0)) 6 c0) (l0.length - (List.length (List.take (Int.toNat p1) l0 ++ List.drop (Int.toNat p2) l0))) (c0 - (List.length (List.take (Int.toNat p1) l0 ++ List.drop (Int.toNat p2) l0)))) (Yl.cut (El57) rfl rfl rfl (by omega) (by omega)) ?_))))))))
 refine WL.do0 (Do.clear (z0 := (.agg #[.int .u64 0, .slice none 0 0, .bool false, .string ⟨List.toArray ([])⟩, .string ⟨List.toArray ([])⟩, .bool false])) (lo := List.length (List.take (Int.toNat p1) l0 ++ List.drop (Int.toNat p2) l0)) (nd := (l0.length - (List.length (List.take (Int.toNat p1) l0 ++ List.drop (Int.toNat p2) l0)))) (by kernel_rfl) rfl (El57) H32 rfl (fun _ => cutA_pos ((H32.rds (i := 0) rfl).isSome (by omega)) (by omega)) (by omega) ?_)
 intro w35 zs33 hz34 H36
 refine ns (Mz rfl (An rfl (rt (rs ?_))))
 have H37 : Own w D w35 [row A0 (List.length (List.take (Int.toNat p1) l0 ++ List.drop (Int.toNat p2) l0)) c0 (List.flatMap rowD.cells (List.take (Int.toNat p1) l0 ++ List.drop (Int.toNat p2) l0)) 72 6] := H36.rowPart (by omega) (del_cells rowD.len (by omega) (by omega) rfl)
 have H38 := H37.pk [0]
 obtain rfl : _ = (List.take (Int.toNat p1) l0 ++ List.drop (Int.toNat p2) l0) := hr.symm.trans (iN h22)
 exact ⟨A0, c0, rfl, H38, (by omega)⟩
def slices_Insert_locks_row_locks_row (l0 : List rowD) (p1 : Int) (x2 : rowD) : (List rowD) :=
 if ((Int.toNat p1 : Nat) : Int) = ((l0.length : Nat) : Int) then (l0 ++ [x2]) else (List.take (Int.toNat p1) l0 ++ (x2 :: List.drop (Int.toNat p1) l0))
set_option maxRecDepth 100000 in
theorem slices_Insert_locks_row_locks_row_ok (w : World) (D : Nat → Prop) (A0 : Option Addr) (n0 c0 : Nat) (l0 : List rowD) (p1 : Int) (A2 : Option Addr) (x2 : rowD) (r0 : List rowD) (H : Own w D w [row A0 n0 c0 (List.flatMap rowD.cells l0) 72 6, rowz A2 1 (List.flatMap rowD.cells ([x2])) 72 6]) (hn0 : n0 = l0.length) (hl0 : l0.length * 80 ≤ 211106232532992) (hh0 : 0 ≤ p1 ∧ p1 ≤ ((l0.length : Nat) : Int) ∧ (l0.length + 1) * 80 ≤ 211106232532992) (hr : slices_Insert_locks_row_locks_row l0 p1 x2 = r0) :
    Calls Try.prog 53 #[.slice A0 n0 c0, .int .i64 p1, .slice A2 1 1] w (Ret fun v w' => ∃ (B0 : Option Addr) (b0 : Nat), v = .slice B0 r0.length b0 ∧ Own w D w' [row B0 r0.length b0 (List.flatMap rowD.cells r0) 72 6] ∧ (r0.length = l0.length + 1)) := by
 subst hn0
 have hc0 := H.rowC (i := 0) rfl
 refine Calls.body (args := [.slice A0 l0.length c0, .int .i64 p1, .slice A2 1 1]) Try.func53 rfl rfl rfl ?_
 show Wp _ _ _ [(0, .slice A0 l0.length c0), (1, .int .i64 p1), (2, .slice A2 1 1)] _ _
 refine sr (Ar rfl (Mz rfl (fw (.int .i64 ((Int.toNat p1 : Nat) : Int)) (Yl.int (e := p1) (Yl.move rfl) (by omega)) (fw (.slice (cutA A0 (Int.toNat p1) 6 c0) (l0.length - (Int.toNat p1)) (c0 - (Int.toNat p1))) (Yl.cutFrom (El57) rfl rfl (by omega)) (ns (Mz rfl (Kz (.int .i64 1) (An rfl (Wp.seq (sr (Mz rfl (Kz (.bool false) (nt (jf (sk (sr (Mz rfl (Kz (.int .i64 ((l0.length : Nat) : Int)) (An rfl (Wp.seq (sr (fw (.int .i64 ((Int.toNat p1 : Nat) : Int)) (Yl.int (e := p1) (Yl.move rfl) (by omega)) ?_))))))))))))))))))))))
 refine Mz rfl (Kz (.bool (decide (((Int.toNat p1 : Nat) : Int) = ((l0.length : Nat) : Int)))) (nt ?_))
 by_cases h21 : ((Int.toNat p1 : Nat) : Int) = ((l0.length : Nat) : Int)
 refine jT (dT h21) (sr (Mz rfl (Mz rfl ?_)))
 refine WL.do rfl (Do.appendW (k := l0.length) (m := 1) (El57) H rfl rfl (src_of Try.underlying57 (own_rd H (i := 1) rfl rowz_rds) (flat_one rowD.one ([x2]))) rfl (by omega) (s := List.length (l0 ++ [x2])) (by first | omega | (simp only [List.length_append, List.length_cons, List.length_nil] <;> omega)) (List.flatMap_append).symm ?_)
 intro A22 c23 w24 H25
 have hl26 : List.length (l0 ++ [x2]) = l0.length + 1 := by simp only [List.length_append, List.length_cons, List.length_nil]
 refine An rfl (rt (tR (rs ?_)))
 have H27 := H25.pk [0]
 obtain rfl : _ = (l0 ++ [x2]) := hr.symm.trans (ip h21)
 exact ⟨A22, c23, rfl, H27, (by omega)⟩
 refine jF (dF h21) (sk (Wp.seq (sr (Mz rfl (Mz rfl (fw (.int .i64 ((l0.length + 1 : Nat) : Int)) (Yl.int (e := IntKind.i64.wrap (((l0.length : Nat) : Int) + 1)) yk (by rw [IntWalk.i64_in _ (by omega)]; omega)) (Mz rfl (Kz (.int .i64 ((c0 : Nat) : Int)) (Kz (.bool (decide (((l0.length + 1 : Nat) : Int) > ((c0 : Nat) : Int)))) (nt ?_))))))))))
 by_cases h28 : ((l0.length + 1 : Nat) : Int) > ((c0 : Nat) : Int)
 refine jT (dT h28) (sr (Mz rfl (fw (.int .i64 ((Int.toNat p1 : Nat) : Int)) (Yl.int (e := p1) (Yl.move rfl) (by omega)) (fw (.slice A0 (Int.toNat p1) c0) (Yl.cutTo (El57) rfl rfl (by omega)) (Mz rfl (Mz rfl (fw (.int .i64 ((l0.length + 1 : Nat) : Int)) (Yl.int (e := IntKind.i64.wrap (((l0.length : Nat) : Int) + 1)) yk (by rw [IntWalk.i64_in _ (by omega)]; omega)) (fw (.int .i64 ((Int.toNat p1 : Nat) : Int)) (Yl.int (e := p1) (Yl.move rfl) (by omega)) (fw (.int .i64 (((l0.length + 1) - (Int.toNat p1) : Nat) : Int)) (Yl.int (e := IntKind.i64.wrap (((l0.length + 1 : Nat) : Int) - ((Int.toNat p1 : Nat) : Int))) yk (by rw [IntWalk.i64_in _ (by omega)]; omega)) ?_)))))))))
 have hl29 : List.length (List.take (Int.toNat p1) l0 ++ (x2 :: List.drop (Int.toNat p1) l0)) = l0.length + 1 := by simp only [List.length_append, List.length_take, List.length_cons, List.length_drop]; omega
 refine WL.do rfl (Do.appendZeros (k := Int.toNat p1) (m := (l0.length + 1) - (Int.toNat p1)) (El57) Try.underlying3 H rfl rfl (by omega) (by omega) (by omega) rfl (by omega) (s := List.length (List.take (Int.toNat p1) l0 ++ (x2 :: List.drop (Int.toNat p1) l0))) (by omega) ?_)
 intro A30 c31 zs32 w34 hz33 H35
 have hle36 := H35.rowLe (i := 0) rfl
 refine Ar rfl (Mz rfl (fw (.int .i64 ((Int.toNat p1 : Nat) : Int)) (Yl.int (e := p1) (Yl.move rfl) (by omega)) (fw (.slice (cutA A30 (Int.toNat p1) 6 c31) ((List.length (List.take (Int.toNat p1) l0 ++ (x2 :: List.drop (Int.toNat p1) l0))) - (Int.toNat p1)) (c31 - (Int.toNat p1))) (Yl.cutFrom (El57) rfl rfl (by omega)) (Mz rfl ?_))))
 refine WL.do rfl (Do.copyT (lo := Int.toNat p1) (k := 1) (El57) H35 rfl (fun _ => cutA_pos ((H35.rds (i := 0) rfl).isSome (by omega)) (by omega)) (by omega) rfl (own_rd H35 (i := 2) rfl rowz_rds) (by omega) (fun u hu => flat_one rowD.one _ u (List.mem_of_mem_take hu)) rfl ?_)
 intro w37 H38
 refine nt (Wp.seq ?_)
 have H40 := H38.drew
 refine Wp.drawnX [8] (fun W => ∃ L', Own w D W ([row A30 (List.length (List.take (Int.toNat p1) l0 ++ (x2 :: List.drop (Int.toNat p1) l0))) c31 (put ((List.flatMap rowD.cells l0).take ((Int.toNat p1) * 6) ++ zs32) ((Int.toNat p1) * 6) (List.take (1 * 6) (List.flatMap rowD.cells [x2]))) 72 6, row A0 l0.length c0 (List.flatMap rowD.cells l0) 72 6, rowz A2 1 (List.flatMap rowD.cells ([x2])) 72 6] ++ L')) (by kernel_rfl) (by kernel_rfl) (NoP.then (NoP.then NoP.base)) ⟨_, H40⟩ ?_
 revert H40
 generalize World.drew w37 = w39
 intro H40
 refine GX.take (v := .slice A30 (List.length (List.take (Int.toNat p1) l0 ++ (x2 :: List.drop (Int.toNat p1) l0))) c31) (rs := [[4]]) 0 rfl (by kernel_rfl) (fun _ _ => Yl.move rfl) (GX.take (v := .int .i64 ((Int.toNat p1 : Nat) : Int)) (rs := [[4, 3]]) 1 rfl (by kernel_rfl) (fun _ _ => Yl.int (e := p1) (Yl.move rfl) (by omega)) (GX.take (v := .int .i64 1) (rs := [[4, 3]]) 2 rfl (by kernel_rfl) (fun _ _ => Yl.move rfl) (GX.take (v := .int .i64 ((Int.toNat p1 + 1 : Nat) : Int)) (rs := [[4]]) 3 rfl (by kernel_rfl) (fun _ _ => Yl.int (e := IntKind.i64.wrap (((Int.toNat p1 : Nat) : Int) + 1)) yk (by rw [IntWalk.i64_in _ (by omega)]; omega)) (GX.take (v := .slice (cutA A30 (Int.toNat p1 + 1) 6 c31) ((List.length (List.take (Int.toNat p1) l0 ++ (x2 :: List.drop (Int.toNat p1) l0))) - (Int.toNat p1 + 1)) (c31 - (Int.toNat p1 + 1))) (rs := [[]]) 4 rfl (by kernel_rfl) (fun _ _ => Yl.cutFrom (El57) rfl rfl (by omega)) (GX.take (v := .slice A0 l0.length c0) (rs := [[7]]) 5 rfl (by kernel_rfl) (fun _ _ => Yl.move rfl) (GX.take (v := .int .i64 ((Int.toNat p1 : Nat) : Int)) (rs := [[7]]) 6 rfl (by kernel_rfl) (fun _ _ => Yl.int (e := p1) (Yl.move rfl) (by omega)) (GX.take (v := .slice (cutA A0 (Int.toNat p1) 6 c0) (l0.length - (Int.toNat p1)) (c0 - (Int.toNat p1))) (rs := [[]]) 7 rfl (by kernel_rfl) (fun _ _ => Yl.cutFrom (El57) rfl rfl (by omega)) ?_)))))))
 refine GX.do 8 rfl (by kernel_rfl) (Do.copyT (lo := Int.toNat p1 + 1) (k := l0.length - Int.toNat p1) (El57) H40 rfl (fun _ => cutA_pos ((H40.rds (i := 0) rfl).isSome (by omega)) (by omega)) (by omega) rfl (Rds.fromE (lo := Int.toNat p1) rowD.len (H40.rds (i := 1) rfl) (by omega) (by omega) (by decide)) (by omega) (fun u hu => flat_one rowD.one _ u (List.mem_of_mem_take hu)) rfl ?_)
 intro w41 H42
 refine ⟨.inl (by kernel_rfl), ?_⟩
 refine GX.done (by kernel_rfl) (Fin.then (sr (Mz rfl (An rfl (rt (tR (rs ?_)))))))
 have H43 : Own w D w41 [row A30 (List.length (List.take (Int.toNat p1) l0 ++ (x2 :: List.drop (Int.toNat p1) l0))) c31 (List.flatMap rowD.cells (List.take (Int.toNat p1) l0 ++ (x2 :: List.drop (Int.toNat p1) l0))) 72 6, row A0 l0.length c0 (List.flatMap rowD.cells l0) 72 6, rowz A2 1 (List.flatMap rowD.cells ([x2])) 72 6] := H42.rowPart (by omega) (ins_grow (l := l0) (k2 := l0.length - Int.toNat p1) rowD.len (by omega) hz33 rfl rfl (by omega))
 have H44 := H43.pk [0]
 obtain rfl : _ = (List.take (Int.toNat p1) l0 ++ (x2 :: List.drop (Int.toNat p1) l0)) := hr.symm.trans (iN h21)
 exact ⟨A30, c31, rfl, H44, (by omega)⟩
 refine jF (dF h28) (sk (sr ?_))
 have hl45 : List.length (List.take (Int.toNat p1) l0 ++ (x2 :: List.drop (Int.toNat p1) l0)) = l0.length + 1 := by simp only [List.length_append, List.length_take, List.length_cons, List.length_drop]; omega
 obtain ⟨sp46, hsp47, H48⟩ := H.rowFull
 refine Mz rfl (Mz rfl (Mz rfl (fw (.int .i64 ((l0.length + 1 : Nat) : Int)) (Yl.int (e := IntKind.i64.wrap (((l0.length : Nat) : Int) + 1)) yk (by rw [IntWalk.i64_in _ (by omega)]; omega)) (fw (.slice A0 (List.length (List.take (Int.toNat p1) l0 ++ (x2 :: List.drop (Int.toNat p1) l0))) c0) (Yl.to (Yl.cutTo (El57) rfl rfl (by omega)) (congrArg (fun q => Value.slice A0 q c0) hl45.symm)) (An rfl (Wp.seq (sr (Mz rfl (Mz rfl (fw (.int .i64 ((Int.toNat p1 : Nat) : Int)) (Yl.int (e := p1) (Yl.move rfl) (by omega)) (Mz rfl (fw (.int .i64 ((Int.toNat p1 + 1 : Nat) : Int)) (Yl.int (e := IntKind.i64.wrap (((Int.toNat p1 : Nat) : Int) + 1)) yk (by rw [IntWalk.i64_in _ (by omega)]; omega)) (fw (.slice (cutA A0 (Int.toNat p1 + 1) 6 c0) ((List.length (List.take (Int.toNat p1) l0 ++ (x2 :: List.drop (Int.toNat p1) l0))) - (Int.toNat p1 + 1)) (c0 - (Int.toNat p1 + 1))) (Yl.cutFrom (El57) rfl rfl (by omega)) ?_)))))))))))))
 have H49 := H48.pk [1, 0]
 refine fw (.bool false) (Yl.overlapsNo (lo := Int.toNat p1 + 1) (run_callFunc_extern Try.func67 (by kernel_rfl) (by kernel_rfl) (by kernel_rfl) (e := Extern.SlicesOverlaps.overlaps #[57, 57] #[4]) (by kernel_rfl)) Try.underlying57 Try.sizeOf72 H49 (by decide) (by omega) rfl (cutA_pos ((H49.rds (i := 1) rfl).isSome (by omega)) (by omega))) (Kz (.bool true) (nt (jt (Wp.seq ?_))))
 have H51 := H49.drew
 refine Wp.drawnX [8] (fun W => ∃ L', Own w D W ([rowz A2 1 (List.flatMap rowD.cells ([x2])) 72 6, row A0 c0 c0 ((List.flatMap rowD.cells l0) ++ sp46) 72 6] ++ L')) (by kernel_rfl) (by kernel_rfl) (NoP.then (NoP.then NoP.base)) ⟨_, H51⟩ ?_
 revert H51
 generalize World.drew w = w50
 intro H51
 refine GX.take (v := .slice A0 (List.length (List.take (Int.toNat p1) l0 ++ (x2 :: List.drop (Int.toNat p1) l0))) c0) (rs := [[4]]) 0 rfl (by kernel_rfl) (fun _ _ => Yl.move rfl) (GX.take (v := .int .i64 ((Int.toNat p1 : Nat) : Int)) (rs := [[4, 3]]) 1 rfl (by kernel_rfl) (fun _ _ => Yl.int (e := p1) (Yl.move rfl) (by omega)) (GX.take (v := .int .i64 1) (rs := [[4, 3]]) 2 rfl (by kernel_rfl) (fun _ _ => Yl.move rfl) (GX.take (v := .int .i64 ((Int.toNat p1 + 1 : Nat) : Int)) (rs := [[4]]) 3 rfl (by kernel_rfl) (fun _ _ => Yl.int (e := IntKind.i64.wrap (((Int.toNat p1 : Nat) : Int) + 1)) yk (by rw [IntWalk.i64_in _ (by omega)]; omega)) (GX.take (v := .slice (cutA A0 (Int.toNat p1 + 1) 6 c0) ((List.length (List.take (Int.toNat p1) l0 ++ (x2 :: List.drop (Int.toNat p1) l0))) - (Int.toNat p1 + 1)) (c0 - (Int.toNat p1 + 1))) (rs := [[]]) 4 rfl (by kernel_rfl) (fun _ _ => Yl.cutFrom (El57) rfl rfl (by omega)) (GX.take (v := .slice A0 (List.length (List.take (Int.toNat p1) l0 ++ (x2 :: List.drop (Int.toNat p1) l0))) c0) (rs := [[7]]) 5 rfl (by kernel_rfl) (fun _ _ => Yl.move rfl) (GX.take (v := .int .i64 ((Int.toNat p1 : Nat) : Int)) (rs := [[7]]) 6 rfl (by kernel_rfl) (fun _ _ => Yl.int (e := p1) (Yl.move rfl) (by omega)) (GX.take (v := .slice (cutA A0 (Int.toNat p1) 6 c0) ((List.length (List.take (Int.toNat p1) l0 ++ (x2 :: List.drop (Int.toNat p1) l0))) - (Int.toNat p1)) (c0 - (Int.toNat p1))) (rs := [[]]) 7 rfl (by kernel_rfl) (fun _ _ => Yl.cutFrom (El57) rfl rfl (by omega)) ?_)))))))
 have H52 := H51.pk [1, 0]
 refine GX.do 8 rfl (by kernel_rfl) (Do.copyT (lo := Int.toNat p1 + 1) (k := l0.length - Int.toNat p1) (El57) H52 rfl (fun _ => cutA_pos ((H52.rds (i := 0) rfl).isSome (by omega)) (by omega)) (by omega) rfl (Rds.cut (lo := Int.toNat p1) (hi := List.length (List.take (Int.toNat p1) l0 ++ (x2 :: List.drop (Int.toNat p1) l0))) (H52.rds (i := 0) rfl) (by omega) (by omega) (by omega)) (by omega) (fun u hu => flat_one rowD.one _ u (by rw [ins_news rowD.len (by omega) rfl (by omega)] at hu; exact hu)) rfl ?_)
 intro w53 H54
 refine ⟨.inl (by kernel_rfl), ?_⟩
 refine GX.done (by kernel_rfl) (Fin.then (sr (Mz rfl (fw (.int .i64 ((Int.toNat p1 : Nat) : Int)) (Yl.int (e := p1) (Yl.move rfl) (by omega)) (fw (.slice (cutA A0 (Int.toNat p1) 6 c0) ((List.length (List.take (Int.toNat p1) l0 ++ (x2 :: List.drop (Int.toNat p1) l0))) - (Int.toNat p1)) (c0 - (Int.toNat p1))) (Yl.cutFrom (El57) rfl rfl (by omega)) (Mz rfl ?_))))))
 refine WL.do rfl (Do.copyT (lo := Int.toNat p1) (k := 1) (El57) H54 rfl (fun _ => cutA_pos ((H54.rds (i := 0) rfl).isSome (by omega)) (by omega)) (by omega) rfl (own_rd H54 (i := 1) rfl rowz_rds) (by omega) (fun u hu => flat_one rowD.one _ u (List.mem_of_mem_take hu)) rfl ?_)
 intro w55 H56
 refine ns (Mz rfl (An rfl (rt (tR (rs ?_)))))
 have H57 : Own w D w55 [row A0 (List.length (List.take (Int.toNat p1) l0 ++ (x2 :: List.drop (Int.toNat p1) l0))) c0 (List.flatMap rowD.cells (List.take (Int.toNat p1) l0 ++ (x2 :: List.drop (Int.toNat p1) l0))) 72 6, rowz A2 1 (List.flatMap rowD.cells ([x2])) 72 6] := H56.rowPart (by omega) (ins_room (l := l0) (m := (List.length (List.take (Int.toNat p1) l0 ++ (x2 :: List.drop (Int.toNat p1) l0))) - Int.toNat p1) (k2 := l0.length - Int.toNat p1) rowD.len (by omega) (by rw [hsp47]; exact Nat.le_mul_of_pos_left 6 (by omega)) rfl rfl (by omega) (by omega))
 have H58 := H57.pk [0]
 obtain rfl : _ = (List.take (Int.toNat p1) l0 ++ (x2 :: List.drop (Int.toNat p1) l0)) := hr.symm.trans (iN h21)
 exact ⟨A0, c0, rfl, H58, (by omega)⟩
end Go.Proofs.Ytggnajpokhaaiaa
