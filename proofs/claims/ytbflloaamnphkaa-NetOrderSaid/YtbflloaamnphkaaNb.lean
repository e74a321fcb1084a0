/-
  net: contracts of Take, Drop, Double, Spoil, All, Clone.
-/
import Derived.Test.YtbflloaamnphkaaNa
namespace Go.Proofs.Ytbflloaamnphkaa
open Go.RowKit
set_option linter.unusedVariables false
set_option linter.unusedSectionVars false

theorem check_in (h : Nat) (ls : List Lt) (m : Nat) (hm : m < List.length ls) (w : World) (D : Nat → Prop) (H : Own w D w [net h ls]) : Calls Try.prog 21 #[.pointer (some ⟨h, 0, none⟩), .int .i64 ((m : Nat) : Int)] w (Ret fun v w' => v = .int .i64 0 ∧ Own w D w' [net h ls]) :=
  Ret.mono (check_ok h ls _ w D H) fun v w' ⟨a, b⟩ => ⟨by rw [a]; unfold chkE; rw [if_pos (by omega)], b⟩
theorem check_out (h : Nat) (ls : List Lt) (i : Int) (hi : ¬ (0 ≤ i ∧ i < ((List.length ls : Nat) : Int))) (w : World) (D : Nat → Prop) (H : Own w D w [net h ls]) : Calls Try.prog 21 #[.pointer (some ⟨h, 0, none⟩), .int .i64 i] w (Ret fun v w' => v = .int .i64 5 ∧ Own w D w' [net h ls]) :=
  Ret.mono (check_ok h ls i w D H) fun v w' ⟨a, b⟩ => ⟨by rw [a]; unfold chkE; rw [if_neg hi], b⟩
theorem take_mid {α : Type} (ls : List α) (m : Nat) (z : α) (hm : m < ls.length) : List.take (ls.length - 1) (List.set (List.take m ls ++ (List.take (ls.length - (m + 1)) (List.drop (m + 1) ls) ++ List.drop (m + (ls.length - (m + 1))) ls)) (ls.length - 1) z) = ls.eraseIdx m := by
  rw [List.take_set_of_le (Nat.le_refl _), List.eraseIdx_eq_take_drop_succ, List.take_of_length_le (l := List.drop (m + 1) ls) (by simp), ← List.append_assoc]
  rw [List.take_append_of_le_length (by simp; omega), List.take_of_length_le (by simp; omega)]

set_option maxRecDepth 100000 in
theorem Take_ok (h m : Nat) (ls : List Lt) (l : Lt) (w : World) (D : Nat → Prop) (H : Own w D w [net h ls]) (hl : ls[m]? = some l) (hle : List.length ls ≤ 1000000) :
    Calls Try.prog 9 #[.pointer (some ⟨h, 0, none⟩), .int .i64 ((m : Nat) : Int)] w (Ret fun v w' => v = .tuple #[.agg (Lt.cells l).toArray, .int .i64 0] ∧ Own w D w' [net h (List.eraseIdx ls m), Lt.own l]) := by
  have hm := (List.getElem?_eq_some_iff.1 hl).1
  refine Calls.body (args := [.pointer (some ⟨h, 0, none⟩), .int .i64 ((m : Nat) : Int)]) Try.func9 rfl rfl rfl ?_
  show Wp _ _ _ [(0, .pointer (some ⟨h, 0, none⟩)), (1, .int .i64 ((m : Nat) : Int))] _ _
  refine Wp.seq ?_
  refine Wp.region ?_
  refine WL.do rfl (Do.newP (cs := [.int .i64 0, .int .i64 0, .slice none 0 0]) (t := 37) H rfl rfl (fun _ => by kernel_rfl) ?_)
  intro g1 w2 H3
  replace H3 : Own w D w2 [blk g1 [.int .i64 0, .int .i64 0, .slice none 0 0] 37, net h ls] := H3
  refine WL.val (v := .int .i64 0) rfl (Yl.assign rfl) ?_
  refine WL.nil ?_
  refine Fin.then ?_
  refine Wp.seq ?_
  refine Wp.seq ?_
  refine Wp.region ?_
  refine WL.val (v := .pointer (some ⟨h, 0, none⟩)) rfl (Yl.move rfl) ?_
  refine WL.val (v := .int .i64 ((m : Nat) : Int)) rfl (Yl.move rfl) ?_
  have H4 : Own w D w2 [net h ls, blk g1 [.int .i64 0, .int .i64 0, .slice none 0 0] 37] := H3.pick [1, 0] (by decide) rfl
  obtain ⟨D5, HP6, ro7, bk8, rr9⟩ := Own.enter (L1 := [net h ls]) (L2 := [blk g1 [.int .i64 0, .int .i64 0, .slice none 0 0] 37]) H4
  refine WL.do rfl (Do.call Try.call21 rfl (check_in h ls m (by omega) _ _ HP6) ?_)
  rintro _ w10 ⟨rfl, HQ11⟩
  have H12 : Own w D w10 [net h ls, blk g1 [.int .i64 0, .int .i64 0, .slice none 0 0] 37] := bk8 _ _ HQ11
  refine WL.val (v := .int .i64 0) rfl (Yl.assign rfl) ?_
  refine WL.nil ?_
  refine Fin.then ?_
  refine Wp.seq ?_
  refine Wp.region ?_
  refine WL.val (v := .int .i64 0) rfl (Yl.move rfl) ?_
  refine WL.val (v := .bool false) rfl (Yl.kern rfl rfl (fun _ => by kernel_rfl)) ?_
  refine WL.nil ?_
  refine Fin.then ?_
  refine Wp.cond0 rfl rfl ?_
  refine Wp.skip ?_
  refine Fin.then ?_
  refine Wp.seq ?_
  refine Wp.region ?_
  obtain ⟨A13, c14, H15⟩ := net.open H12
  have H15le := (H15.rowLe (i := 1) rfl).1
  have H15le2 := (H15.rowLe (i := 1) rfl).2.1
  unfold maxLen at H15le2
  refine WL.val (v := .pointer (some ⟨h, 0, none⟩)) rfl (Yl.move rfl) ?_
  refine WL.val (v := .pointer (some ⟨h, 0, none⟩)) rfl (Yl.kern rfl rfl (fun _ => by kernel_rfl)) ?_
  refine WL.val (v := .pointer (some ⟨h, 0, none⟩)) rfl (Yl.kern rfl rfl (fun _ => by kernel_rfl)) ?_
  refine WL.val (v := .slice A13 (List.length ls) c14) rfl (Yl.load rfl (Lds.one Try.isAgg52 (Cls.of (H15.cls (i := 0) rfl) rfl))) ?_
  refine WL.val (v := .int .i64 ((m : Nat) : Int)) rfl (Yl.move rfl) ?_
  refine WL.val (v := .pointer (some ⟨ab A13, ao A13 + m * 3, none⟩)) rfl (Yl.indexAddr (El52) rfl rfl ((H15.rds (i := 1) rfl).addr (i := m) (by omega)) (by omega)) ?_
  refine WL.val (v := .agg #[.int .i64 l.fr, .int .i64 l.to, .slice l.A (List.length l.bs) l.c]) rfl (Yl.load rfl (Lds.agg (cs := [.int .i64 l.fr, .int .i64 l.to, .slice l.A (List.length l.bs) l.c]) Try.isAgg37 Try.sizeOf37 ((H15.rds (i := 1) rfl).elem Lt.len hl (by decide)))) ?_
  refine WL.do rfl (Do.newP (cs := [.int .i64 0, .int .i64 0, .slice none 0 0]) (t := 37) H15 rfl rfl (fun _ => by kernel_rfl) ?_)
  intro g16 w17 H18
  replace H18 : Own w D w17 [blk g16 [.int .i64 0, .int .i64 0, .slice none 0 0] 37, blk h [.slice A13 (List.length ls) c14] 55, row A13 (List.length ls) c14 (List.flatMap Lt.cells ls) 37 3, sepL (List.map Lt.own ls), blk g1 [.int .i64 0, .int .i64 0, .slice none 0 0] 37] := H18
  refine WL.do0 (Do.store (vs := [.int .i64 l.fr, .int .i64 l.to, .slice l.A (List.length l.bs) l.c]) (o := 0) H18 rfl rfl Try.sizeOf37 rfl rfl rfl rfl ?_)
  intro w19 H20
  replace H20 : Own w D w19 [blk g16 [.int .i64 l.fr, .int .i64 l.to, .slice l.A (List.length l.bs) l.c] 37, blk h [.slice A13 (List.length ls) c14] 55, row A13 (List.length ls) c14 (List.flatMap Lt.cells ls) 37 3, sepL (List.map Lt.own ls), blk g1 [.int .i64 0, .int .i64 0, .slice none 0 0] 37] := H20
  refine WL.nil ?_
  refine Fin.then ?_
  refine Wp.seq ?_
  refine Wp.region ?_
  refine WL.val (v := .pointer (some ⟨h, 0, none⟩)) rfl (Yl.move rfl) ?_
  refine WL.val (v := .pointer (some ⟨h, 0, none⟩)) rfl (Yl.kern rfl rfl (fun _ => by kernel_rfl)) ?_
  refine WL.val (v := .pointer (some ⟨h, 0, none⟩)) rfl (Yl.kern rfl rfl (fun _ => by kernel_rfl)) ?_
  refine WL.val (v := .slice A13 (List.length ls) c14) rfl (Yl.load rfl (Lds.one Try.isAgg52 (Cls.of (H20.cls (i := 1) rfl) rfl))) ?_
  refine WL.val (v := .int .i64 ((List.length ls : Nat) : Int)) rfl (Yl.kern rfl rfl (fun _ => by kernel_rfl)) ?_
  refine WL.val (v := .int .i64 (((List.length ls) - 1 : Nat) : Int)) rfl (Yl.int (e := IntKind.i64.wrap (((List.length ls : Nat) : Int) - 1)) (Yl.kern rfl rfl (fun _ => by kernel_rfl)) (by rw [IntWalk.i64_in _ (by omega)]; omega)) ?_
  refine WL.val (v := .int .i64 (((List.length ls) - 1 : Nat) : Int)) rfl (Yl.assign rfl) ?_
  refine WL.nil ?_
  refine Fin.then ?_
  refine Wp.seq ?_
  have H21 : Own w D w19 [blk h [.slice A13 (List.length ls) c14] 55, blk g16 [.int .i64 l.fr, .int .i64 l.to, .slice l.A (List.length l.bs) l.c] 37, row A13 (List.length ls) c14 (List.flatMap Lt.cells ls) 37 3, sepL (List.map Lt.own ls), blk g1 [.int .i64 0, .int .i64 0, .slice none 0 0] 37] := H20.pick [1, 0, 2, 3, 4] (by decide) rfl
  have H23 := H21.drew
  refine Wp.drawn (Keep [] (fun W => ∃ L', Own w D W ([blk h [.slice A13 (List.length ls) c14] 55] ++ L'))) (by kernel_rfl) (.inr ⟨_, H23⟩) ?_
  revert H23
  generalize World.drew w19 = w22
  intro H23
  replace H23 : Own w D w22 [blk h [.slice A13 (List.length ls) c14] 55, blk g16 [.int .i64 l.fr, .int .i64 l.to, .slice l.A (List.length l.bs) l.c] 37, row A13 (List.length ls) c14 (List.flatMap Lt.cells ls) 37 3, sepL (List.map Lt.own ls), blk g1 [.int .i64 0, .int .i64 0, .slice none 0 0] 37] := H23
  show GW _ _ _ _ 14 #[false, false, false, false, false, false, false, false, false, false, false, false, false, false] _ _ _
  refine GW.take (v := .pointer (some ⟨h, 0, none⟩)) (i := 0) (l' := #[true, false, false, false, false, false, false, false, false, false, false, false, false, false]) (rs := []) rfl (by kernel_rfl) rfl (NoP.then NoP.base) (by kernel_rfl) (by kernel_rfl) (by kernel_rfl) (by kernel_rfl) (fun _ _ => Yl.move rfl) ?_
  refine GW.take (v := .pointer (some ⟨h, 0, none⟩)) (i := 1) (l' := #[true, true, false, false, false, false, false, false, false, false, false, false, false, false]) (rs := []) rfl (by kernel_rfl) rfl (NoP.then NoP.base) (by kernel_rfl) (by kernel_rfl) (by kernel_rfl) (by kernel_rfl) (fun _ _ => Yl.kern rfl rfl (fun _ => by kernel_rfl)) ?_
  refine GW.take (v := .pointer (some ⟨h, 0, none⟩)) (i := 2) (l' := #[true, true, true, false, false, false, false, false, false, false, false, false, false, false]) (rs := []) rfl (by kernel_rfl) rfl (NoP.then NoP.base) (by kernel_rfl) (by kernel_rfl) (by kernel_rfl) (by kernel_rfl) (fun _ _ => Yl.kern rfl rfl (fun _ => by kernel_rfl)) ?_
  refine GW.take (v := .slice A13 (List.length ls) c14) (i := 3) (l' := #[true, true, true, true, false, false, false, false, false, false, false, false, false, false]) (rs := []) rfl (by kernel_rfl) rfl (NoP.then NoP.base) (by kernel_rfl) (by kernel_rfl) (by kernel_rfl) (by kernel_rfl) (fun _ ⟨_, H9⟩ => Yl.load rfl (Lds.one Try.isAgg52 (Cls.of (H9.cls (i := 0) rfl) rfl))) ?_
  refine GW.take (v := .int .i64 ((m : Nat) : Int)) (i := 4) (l' := #[true, true, true, true, true, false, false, false, false, false, false, false, false, false]) (rs := []) rfl (by kernel_rfl) rfl (NoP.then NoP.base) (by kernel_rfl) (by kernel_rfl) (by kernel_rfl) (by kernel_rfl) (fun _ _ => Yl.move rfl) ?_
  refine GW.take (v := .slice (cutA A13 m 3 c14) ((List.length ls) - m) (c14 - m)) (i := 5) (l' := #[true, true, true, true, true, true, false, false, false, false, false, false, false, false]) (rs := []) rfl (by kernel_rfl) rfl (NoP.then NoP.base) (by kernel_rfl) (by kernel_rfl) (by kernel_rfl) (by kernel_rfl) (fun _ _ => Yl.cutFrom (El52) rfl rfl (by omega)) ?_
  refine GW.take (v := .pointer (some ⟨h, 0, none⟩)) (i := 6) (l' := #[true, true, true, true, true, true, true, false, false, false, false, false, false, false]) (rs := []) rfl (by kernel_rfl) rfl (NoP.then NoP.base) (by kernel_rfl) (by kernel_rfl) (by kernel_rfl) (by kernel_rfl) (fun _ _ => Yl.move rfl) ?_
  refine GW.take (v := .pointer (some ⟨h, 0, none⟩)) (i := 7) (l' := #[true, true, true, true, true, true, true, true, false, false, false, false, false, false]) (rs := []) rfl (by kernel_rfl) rfl (NoP.then NoP.base) (by kernel_rfl) (by kernel_rfl) (by kernel_rfl) (by kernel_rfl) (fun _ _ => Yl.kern rfl rfl (fun _ => by kernel_rfl)) ?_
  refine GW.take (v := .pointer (some ⟨h, 0, none⟩)) (i := 8) (l' := #[true, true, true, true, true, true, true, true, true, false, false, false, false, false]) (rs := []) rfl (by kernel_rfl) rfl (NoP.then NoP.base) (by kernel_rfl) (by kernel_rfl) (by kernel_rfl) (by kernel_rfl) (fun _ _ => Yl.kern rfl rfl (fun _ => by kernel_rfl)) ?_
  refine GW.take (v := .slice A13 (List.length ls) c14) (i := 9) (l' := #[true, true, true, true, true, true, true, true, true, true, false, false, false, false]) (rs := []) rfl (by kernel_rfl) rfl (NoP.then NoP.base) (by kernel_rfl) (by kernel_rfl) (by kernel_rfl) (by kernel_rfl) (fun _ ⟨_, H9⟩ => Yl.load rfl (Lds.one Try.isAgg52 (Cls.of (H9.cls (i := 0) rfl) rfl))) ?_
  refine GW.take (v := .int .i64 ((m : Nat) : Int)) (i := 10) (l' := #[true, true, true, true, true, true, true, true, true, true, true, false, false, false]) (rs := []) rfl (by kernel_rfl) rfl (NoP.then NoP.base) (by kernel_rfl) (by kernel_rfl) (by kernel_rfl) (by kernel_rfl) (fun _ _ => Yl.move rfl) ?_
  refine GW.take (v := .int .i64 ((m + 1 : Nat) : Int)) (i := 11) (l' := #[true, true, true, true, true, true, true, true, true, true, true, true, false, false]) (rs := []) rfl (by kernel_rfl) rfl (NoP.then NoP.base) (by kernel_rfl) (by kernel_rfl) (by kernel_rfl) (by kernel_rfl) (fun _ _ => Yl.int (e := IntKind.i64.wrap (((m : Nat) : Int) + 1)) (Yl.kern rfl rfl (fun _ => by kernel_rfl)) (by rw [IntWalk.i64_in _ (by omega)]; omega)) ?_
  refine GW.take (v := .slice (cutA A13 (m + 1) 3 c14) ((List.length ls) - (m + 1)) (c14 - (m + 1))) (i := 12) (l' := #[true, true, true, true, true, true, true, true, true, true, true, true, true, false]) (rs := []) rfl (by kernel_rfl) rfl (NoP.then NoP.base) (by kernel_rfl) (by kernel_rfl) (by kernel_rfl) (by kernel_rfl) (fun _ _ => Yl.cutFrom (El52) rfl rfl (by omega)) ?_
  have H25 : Own w D w22 [row A13 (List.length ls) c14 (List.flatMap Lt.cells ls) 37 3, blk h [.slice A13 (List.length ls) c14] 55, blk g16 [.int .i64 l.fr, .int .i64 l.to, .slice l.A (List.length l.bs) l.c] 37, sepL (List.map Lt.own ls), blk g1 [.int .i64 0, .int .i64 0, .slice none 0 0] 37] := H23.pick [2, 0, 1, 3, 4] (by decide) rfl
  refine GW.do (i := 13) (l' := #[true, true, true, true, true, true, true, true, true, true, true, true, true, true]) rfl rfl (by kernel_rfl) (by kernel_rfl) (Do.copy (lo := m) (k := List.length ls - (m + 1)) (El52) H25 rfl (fun _ => cutA_pos ((H25.rds (i := 0) rfl).addr (i := m) (by omega)) (by omega)) (by omega) rfl (Rds.fromE (lo := m + 1) Lt.len (H25.rds (i := 0) rfl) (by omega) (by omega) (by decide)) (flat_one Lt.one (List.drop (m + 1) ls)) (by omega) (flat_put Lt.len _ _ _ _ (by first | omega | (simp; done) | (simp; omega))) ?_)
  intro w26 H27
  replace H27 : Own w D w26 [row A13 (List.length ls) c14 (List.flatMap Lt.cells (List.take m ls ++ (List.take (List.length ls - (m + 1)) (List.drop (m + 1) ls) ++ List.drop (m + (List.length ls - (m + 1))) ls))) 37 3, blk h [.slice A13 (List.length ls) c14] 55, blk g16 [.int .i64 l.fr, .int .i64 l.to, .slice l.A (List.length l.bs) l.c] 37, sepL (List.map Lt.own ls), blk g1 [.int .i64 0, .int .i64 0, .slice none 0 0] 37] := H27
  have H28 : Own w D w26 [blk h [.slice A13 (List.length ls) c14] 55, row A13 (List.length ls) c14 (List.flatMap Lt.cells (List.take m ls ++ (List.take (List.length ls - (m + 1)) (List.drop (m + 1) ls) ++ List.drop (m + (List.length ls - (m + 1))) ls))) 37 3, blk g16 [.int .i64 l.fr, .int .i64 l.to, .slice l.A (List.length l.bs) l.c] 37, sepL (List.map Lt.own ls), blk g1 [.int .i64 0, .int .i64 0, .slice none 0 0] 37] := H27.pick [1, 0, 2, 3, 4] (by decide) rfl
  refine ⟨.inr ⟨_, H28⟩, ?_⟩
  show GW _ _ _ _ 0 #[true, true, true, true, true, true, true, true, true, true, true, true, true, true] _ _ _
  refine GW.done (by kernel_rfl) ?_
  refine Fin.then ?_
  refine Wp.seq ?_
  refine Wp.region ?_
  refine WL.val (v := .pointer (some ⟨h, 0, none⟩)) rfl (Yl.move rfl) ?_
  refine WL.val (v := .pointer (some ⟨h, 0, none⟩)) rfl (Yl.kern rfl rfl (fun _ => by kernel_rfl)) ?_
  refine WL.val (v := .pointer (some ⟨h, 0, none⟩)) rfl (Yl.kern rfl rfl (fun _ => by kernel_rfl)) ?_
  refine WL.val (v := .slice A13 (List.length ls) c14) rfl (Yl.load rfl (Lds.one Try.isAgg52 (Cls.of (H28.cls (i := 0) rfl) rfl))) ?_
  refine WL.val (v := .int .i64 (((List.length ls) - 1 : Nat) : Int)) rfl (Yl.move rfl) ?_
  refine WL.val (v := .agg #[.int .i64 0, .int .i64 0, .slice none 0 0]) rfl (Yl.kern rfl rfl (fun _ => by kernel_rfl)) ?_
  obtain ⟨x29, hx30⟩ := rds_at (ls := (List.take m ls ++ (List.take (List.length ls - (m + 1)) (List.drop (m + 1) ls) ++ List.drop (m + (List.length ls - (m + 1))) ls))) (i := (List.length ls) - 1) Lt.len (by decide) (H28.rds (i := 1) rfl) (by first | omega | (simp; done) | (simp; omega))
  refine WL.val (v := .pointer (some ⟨ab A13, ao A13 + ((List.length ls) - 1) * 3, none⟩)) rfl (Yl.indexAddr (El52) rfl rfl ((H28.rds (i := 1) rfl).addr (i := (List.length ls) - 1) (by omega)) (by omega)) ?_
  have H31 : Own w D w26 [row A13 (List.length ls) c14 (List.flatMap Lt.cells (List.take m ls ++ (List.take (List.length ls - (m + 1)) (List.drop (m + 1) ls) ++ List.drop (m + (List.length ls - (m + 1))) ls))) 37 3, blk h [.slice A13 (List.length ls) c14] 55, blk g16 [.int .i64 l.fr, .int .i64 l.to, .slice l.A (List.length l.bs) l.c] 37, sepL (List.map Lt.own ls), blk g1 [.int .i64 0, .int .i64 0, .slice none 0 0] 37] := H28.pick [1, 0, 2, 3, 4] (by decide) rfl
  refine WL.do0 (Do.storeRow (vs := [.int .i64 0, .int .i64 0, .slice none 0 0]) (o := ((List.length ls) - 1) * 3 + 0) (q := ao A13 + ((List.length ls) - 1) * 3) H31 rfl (by omega) rfl Try.sizeOf37 rfl rfl (Nat.le_of_ble_eq_true rfl) (store_fits Lt.len hx30 (Nat.le_of_ble_eq_true rfl)) (flat_set (y := ⟨0, 0, none, 0, []⟩) Lt.len rfl (Nat.le_of_ble_eq_true rfl) hx30) ?_)
  intro w32 H33
  replace H33 : Own w D w32 [row A13 (List.length ls) c14 (List.flatMap Lt.cells (List.set (List.take m ls ++ (List.take (List.length ls - (m + 1)) (List.drop (m + 1) ls) ++ List.drop (m + (List.length ls - (m + 1))) ls)) ((List.length ls) - 1) (⟨0, 0, none, 0, []⟩))) 37 3, blk h [.slice A13 (List.length ls) c14] 55, blk g16 [.int .i64 l.fr, .int .i64 l.to, .slice l.A (List.length l.bs) l.c] 37, sepL (List.map Lt.own ls), blk g1 [.int .i64 0, .int .i64 0, .slice none 0 0] 37] := H33
  refine WL.nil ?_
  refine Fin.then ?_
  refine Wp.seq ?_
  refine Wp.region ?_
  refine WL.val (v := .pointer (some ⟨h, 0, none⟩)) rfl (Yl.move rfl) ?_
  refine WL.val (v := .pointer (some ⟨h, 0, none⟩)) rfl (Yl.move rfl) ?_
  refine WL.val (v := .pointer (some ⟨h, 0, none⟩)) rfl (Yl.kern rfl rfl (fun _ => by kernel_rfl)) ?_
  refine WL.val (v := .pointer (some ⟨h, 0, none⟩)) rfl (Yl.kern rfl rfl (fun _ => by kernel_rfl)) ?_
  refine WL.val (v := .slice A13 (List.length ls) c14) rfl (Yl.load rfl (Lds.one Try.isAgg52 (Cls.of (H33.cls (i := 1) rfl) rfl))) ?_
  refine WL.val (v := .int .i64 (((List.length ls) - 1 : Nat) : Int)) rfl (Yl.move rfl) ?_
  refine WL.val (v := .slice A13 ((List.length ls) - 1) c14) rfl (Yl.cutTo (El52) rfl rfl (by omega)) ?_
  refine WL.val (v := .pointer (some ⟨h, 0, none⟩)) rfl (Yl.kern rfl rfl (fun _ => by kernel_rfl)) ?_
  refine WL.val (v := .pointer (some ⟨h, 0, none⟩)) rfl (Yl.kern rfl rfl (fun _ => by kernel_rfl)) ?_
  have H34 : Own w D w32 [blk h [.slice A13 (List.length ls) c14] 55, row A13 (List.length ls) c14 (List.flatMap Lt.cells (List.set (List.take m ls ++ (List.take (List.length ls - (m + 1)) (List.drop (m + 1) ls) ++ List.drop (m + (List.length ls - (m + 1))) ls)) ((List.length ls) - 1) (⟨0, 0, none, 0, []⟩))) 37 3, blk g16 [.int .i64 l.fr, .int .i64 l.to, .slice l.A (List.length l.bs) l.c] 37, sepL (List.map Lt.own ls), blk g1 [.int .i64 0, .int .i64 0, .slice none 0 0] 37] := H33.pick [1, 0, 2, 3, 4] (by decide) rfl
  refine WL.do0 (Do.store (vs := [.slice A13 ((List.length ls) - 1) c14]) (o := 0) H34 rfl rfl Try.sizeOf52 rfl rfl rfl rfl ?_)
  intro w35 H36
  replace H36 : Own w D w35 [blk h [.slice A13 ((List.length ls) - 1) c14] 55, row A13 (List.length ls) c14 (List.flatMap Lt.cells (List.set (List.take m ls ++ (List.take (List.length ls - (m + 1)) (List.drop (m + 1) ls) ++ List.drop (m + (List.length ls - (m + 1))) ls)) ((List.length ls) - 1) (⟨0, 0, none, 0, []⟩))) 37 3, blk g16 [.int .i64 l.fr, .int .i64 l.to, .slice l.A (List.length l.bs) l.c] 37, sepL (List.map Lt.own ls), blk g1 [.int .i64 0, .int .i64 0, .slice none 0 0] 37] := H36
  refine WL.nil ?_
  refine Fin.then ?_
  refine Wp.seq ?_
  refine Wp.region ?_
  refine WL.val (v := .agg #[.int .i64 l.fr, .int .i64 l.to, .slice l.A (List.length l.bs) l.c]) rfl (Yl.load rfl (Lds.agg (cs := [.int .i64 l.fr, .int .i64 l.to, .slice l.A (List.length l.bs) l.c]) Try.isAgg37 Try.sizeOf37 ((H36.cls (i := 2) rfl).lit (k := 0) (m := 3) rfl))) ?_
  have H37 : Own w D w35 [blk g1 [.int .i64 0, .int .i64 0, .slice none 0 0] 37, blk h [.slice A13 ((List.length ls) - 1) c14] 55, row A13 (List.length ls) c14 (List.flatMap Lt.cells (List.set (List.take m ls ++ (List.take (List.length ls - (m + 1)) (List.drop (m + 1) ls) ++ List.drop (m + (List.length ls - (m + 1))) ls)) ((List.length ls) - 1) (⟨0, 0, none, 0, []⟩))) 37 3, blk g16 [.int .i64 l.fr, .int .i64 l.to, .slice l.A (List.length l.bs) l.c] 37, sepL (List.map Lt.own ls)] := H36.pick [4, 0, 1, 2, 3] (by decide) rfl
  refine WL.do0 (Do.store (vs := [.int .i64 l.fr, .int .i64 l.to, .slice l.A (List.length l.bs) l.c]) (o := 0) H37 rfl rfl Try.sizeOf37 rfl rfl rfl rfl ?_)
  intro w38 H39
  replace H39 : Own w D w38 [blk g1 [.int .i64 l.fr, .int .i64 l.to, .slice l.A (List.length l.bs) l.c] 37, blk h [.slice A13 ((List.length ls) - 1) c14] 55, row A13 (List.length ls) c14 (List.flatMap Lt.cells (List.set (List.take m ls ++ (List.take (List.length ls - (m + 1)) (List.drop (m + 1) ls) ++ List.drop (m + (List.length ls - (m + 1))) ls)) ((List.length ls) - 1) (⟨0, 0, none, 0, []⟩))) 37 3, blk g16 [.int .i64 l.fr, .int .i64 l.to, .slice l.A (List.length l.bs) l.c] 37, sepL (List.map Lt.own ls)] := H39
  refine WL.val (v := .int .i64 0) rfl (Yl.assign rfl) ?_
  refine WL.nil ?_
  refine Fin.then ?_
  refine Wp.ret ?_
  refine Fin.res (resN (vs := [.agg #[.int .i64 l.fr, .int .i64 l.to, .slice l.A (List.length l.bs) l.c], .int .i64 0]) rfl (ResV.cell rfl (Lds.agg (cs := [.int .i64 l.fr, .int .i64 l.to, .slice l.A (List.length l.bs) l.c]) Try.isAgg37 Try.sizeOf37 ((H39.cls (i := 0) rfl).lit (k := 0) (m := 3) rfl)) (ResV.tmp rfl ResV.nil)) (Nat.le_of_ble_eq_true rfl)) ?_
  have H40 : Own w D w38 [row A13 (List.length ls) c14 (List.flatMap Lt.cells (List.set (List.take m ls ++ (List.take (List.length ls - (m + 1)) (List.drop (m + 1) ls) ++ List.drop (m + (List.length ls - (m + 1))) ls)) ((List.length ls) - 1) (⟨0, 0, none, 0, []⟩))) 37 3, blk h [.slice A13 ((List.length ls) - 1) c14] 55, sepL (List.map Lt.own ls)] := H39.pick [2, 1, 4] (by decide) rfl
  have HT := (H40.rowTake (k := List.length ls - 1) (by omega) (flat_take Lt.len _ _))
  rw [take_mid ls m _ (by omega)] at HT
  have HS := (HT.pick [2, 0, 1] (by decide) rfl).sepAt (i := m) (R := Lt.own l) (by rw [List.getElem?_map, hl]; rfl)
  have HS2 := HS.pick [3, 2, 1, 0] (by decide) rfl
  exact ⟨rfl, net.fold2 (by rw [List.length_eraseIdx, if_pos (by omega)]) (map_erase _ _ _) HS2⟩

set_option maxRecDepth 100000 in
theorem Take_none (h : Nat) (ls : List Lt) (i : Int) (w : World) (D : Nat → Prop) (H : Own w D w [net h ls]) (hi : ¬ (0 ≤ i ∧ i < ((List.length ls : Nat) : Int))) :
    Calls Try.prog 9 #[.pointer (some ⟨h, 0, none⟩), .int .i64 i] w (Ret fun v w' => v = .tuple #[.agg (Lt.cells ⟨0, 0, none, 0, []⟩).toArray, .int .i64 5] ∧ Own w D w' [net h ls]) := by
  refine Calls.body (args := [.pointer (some ⟨h, 0, none⟩), .int .i64 i]) Try.func9 rfl rfl rfl ?_
  show Wp _ _ _ [(0, .pointer (some ⟨h, 0, none⟩)), (1, .int .i64 i)] _ _
  refine Wp.seq ?_
  refine Wp.region ?_
  refine WL.do rfl (Do.newP (cs := [.int .i64 0, .int .i64 0, .slice none 0 0]) (t := 37) H rfl rfl (fun _ => by kernel_rfl) ?_)
  intro g1 w2 H3
  replace H3 : Own w D w2 [blk g1 [.int .i64 0, .int .i64 0, .slice none 0 0] 37, net h ls] := H3
  refine WL.val (v := .int .i64 0) rfl (Yl.assign rfl) ?_
  refine WL.nil ?_
  refine Fin.then ?_
  refine Wp.seq ?_
  refine Wp.seq ?_
  refine Wp.region ?_
  refine WL.val (v := .pointer (some ⟨h, 0, none⟩)) rfl (Yl.move rfl) ?_
  refine WL.val (v := .int .i64 i) rfl (Yl.move rfl) ?_
  have H4 : Own w D w2 [net h ls, blk g1 [.int .i64 0, .int .i64 0, .slice none 0 0] 37] := H3.pick [1, 0] (by decide) rfl
  obtain ⟨D5, HP6, ro7, bk8, rr9⟩ := Own.enter (L1 := [net h ls]) (L2 := [blk g1 [.int .i64 0, .int .i64 0, .slice none 0 0] 37]) H4
  refine WL.do rfl (Do.call Try.call21 rfl (check_out h ls i (by omega) _ _ HP6) ?_)
  rintro _ w10 ⟨rfl, HQ11⟩
  have H12 : Own w D w10 [net h ls, blk g1 [.int .i64 0, .int .i64 0, .slice none 0 0] 37] := bk8 _ _ HQ11
  refine WL.val (v := .int .i64 5) rfl (Yl.assign rfl) ?_
  refine WL.nil ?_
  refine Fin.then ?_
  refine Wp.seq ?_
  refine Wp.region ?_
  refine WL.val (v := .int .i64 5) rfl (Yl.move rfl) ?_
  refine WL.val (v := .bool true) rfl (Yl.kern rfl rfl (fun _ => by kernel_rfl)) ?_
  refine WL.nil ?_
  refine Fin.then ?_
  refine Wp.cond1 rfl rfl ?_
  refine Wp.seq ?_
  refine Wp.region ?_
  refine WL.val (v := .agg #[.int .i64 0, .int .i64 0, .slice none 0 0]) rfl (Yl.kern rfl rfl (fun _ => by kernel_rfl)) ?_
  refine WL.val (v := .int .i64 5) rfl (Yl.move rfl) ?_
  have H13 : Own w D w10 [blk g1 [.int .i64 0, .int .i64 0, .slice none 0 0] 37, net h ls] := H12.pick [1, 0] (by decide) rfl
  refine WL.do0 (Do.store (vs := [.int .i64 0, .int .i64 0, .slice none 0 0]) (o := 0) H13 rfl rfl Try.sizeOf37 rfl rfl rfl rfl ?_)
  intro w14 H15
  replace H15 : Own w D w14 [blk g1 [.int .i64 0, .int .i64 0, .slice none 0 0] 37, net h ls] := H15
  refine WL.val (v := .int .i64 5) rfl (Yl.assign rfl) ?_
  refine WL.nil ?_
  refine Fin.then ?_
  refine Wp.ret ?_
  refine Fin.thenR ?_
  refine Fin.res (resN (vs := [.agg #[.int .i64 0, .int .i64 0, .slice none 0 0], .int .i64 5]) rfl (ResV.cell rfl (Lds.agg (cs := [.int .i64 0, .int .i64 0, .slice none 0 0]) Try.isAgg37 Try.sizeOf37 ((H15.cls (i := 0) rfl).lit (k := 0) (m := 3) rfl)) (ResV.tmp rfl ResV.nil)) (Nat.le_of_ble_eq_true rfl)) ?_
  have H16 : Own w D w14 [net h ls] := H15.pick [1] (by decide) rfl
  exact ⟨rfl, H16⟩

set_option maxRecDepth 100000 in
theorem Drop_ok (h : Nat) (ls : List Lt) (m : Nat) (w : World) (D : Nat → Prop) (H : Own w D w [net h ls]) (l : Lt) (hl : ls[m]? = some l) (hle : List.length ls ≤ 1000000) :
    Calls Try.prog 11 #[.pointer (some ⟨h, 0, none⟩), .int .i64 ((m : Nat) : Int)] w (Ret fun v w' => v = .int .i64 0 ∧ Own w D w' [net h (List.eraseIdx ls m)]) := by
  refine Calls.body (args := [.pointer (some ⟨h, 0, none⟩), .int .i64 ((m : Nat) : Int)]) Try.func11 rfl rfl rfl ?_
  show Wp _ _ _ [(0, .pointer (some ⟨h, 0, none⟩)), (1, .int .i64 ((m : Nat) : Int))] _ _
  refine Wp.seq ?_
  refine Wp.region ?_
  refine WL.val (v := .int .i64 0) rfl (Yl.assign rfl) ?_
  refine WL.nil ?_
  refine Fin.then ?_
  refine Wp.seq ?_
  refine Wp.region ?_
  refine WL.val (v := .pointer (some ⟨h, 0, none⟩)) rfl (Yl.move rfl) ?_
  refine WL.val (v := .int .i64 ((m : Nat) : Int)) rfl (Yl.move rfl) ?_
  obtain ⟨D1, HP2, ro3, bk4, rr5⟩ := Own.enter (L1 := [net h ls]) (L2 := []) H
  refine WL.do rfl (Do.call Try.call9 rfl (Take_ok h m ls l _ _ HP2 hl (by first | omega | (simp; done) | (simp; omega))) ?_)
  rintro _ w6 ⟨rfl, HQ7⟩
  have H8 : Own w D w6 [net h (List.eraseIdx ls m), row l.A (List.length l.bs) l.c (List.flatMap eB l.bs) 5 1] := bk4 _ _ HQ7
  refine WL.val (v := .tuple #[.agg #[.int .i64 l.fr, .int .i64 l.to, .slice l.A (List.length l.bs) l.c], .int .i64 0]) rfl (Yl.move rfl) ?_
  refine WL.val (v := .agg #[.int .i64 l.fr, .int .i64 l.to, .slice l.A (List.length l.bs) l.c]) rfl (Yl.kern rfl rfl (fun _ => by kernel_rfl)) ?_
  refine WL.val (v := .int .i64 0) rfl (Yl.kern rfl rfl (fun _ => by kernel_rfl)) ?_
  refine WL.do rfl (Do.newP (cs := [.int .i64 0, .int .i64 0, .slice none 0 0]) (t := 37) H8 rfl rfl (fun _ => by kernel_rfl) ?_)
  intro g9 w10 H11
  replace H11 : Own w D w10 [blk g9 [.int .i64 0, .int .i64 0, .slice none 0 0] 37, net h (List.eraseIdx ls m), row l.A (List.length l.bs) l.c (List.flatMap eB l.bs) 5 1] := H11
  refine WL.do0 (Do.store (vs := [.int .i64 l.fr, .int .i64 l.to, .slice l.A (List.length l.bs) l.c]) (o := 0) H11 rfl rfl Try.sizeOf37 rfl rfl rfl rfl ?_)
  intro w12 H13
  replace H13 : Own w D w12 [blk g9 [.int .i64 l.fr, .int .i64 l.to, .slice l.A (List.length l.bs) l.c] 37, net h (List.eraseIdx ls m), row l.A (List.length l.bs) l.c (List.flatMap eB l.bs) 5 1] := H13
  refine WL.val (v := .int .i64 0) rfl (Yl.assign rfl) ?_
  refine WL.nil ?_
  refine Fin.then ?_
  refine Wp.seq ?_
  refine Wp.region ?_
  refine WL.val (v := .int .i64 0) rfl (Yl.move rfl) ?_
  refine WL.val (v := .int .i64 0) rfl (Yl.assign rfl) ?_
  refine WL.nil ?_
  refine Fin.then ?_
  refine Wp.ret ?_
  refine Fin.res (res1 rfl rfl) ?_
  have H14 : Own w D w12 [net h (List.eraseIdx ls m)] := H13.pick [1] (by decide) rfl
  exact ⟨rfl, H14⟩

set_option maxRecDepth 100000 in
theorem Drop_none (h : Nat) (ls : List Lt) (i : Int) (w : World) (D : Nat → Prop) (H : Own w D w [net h ls]) (hi : ¬ (0 ≤ i ∧ i < ((List.length ls : Nat) : Int))) :
    Calls Try.prog 11 #[.pointer (some ⟨h, 0, none⟩), .int .i64 i] w (Ret fun v w' => v = .int .i64 5 ∧ Own w D w' [net h ls]) := by
  refine Calls.body (args := [.pointer (some ⟨h, 0, none⟩), .int .i64 i]) Try.func11 rfl rfl rfl ?_
  show Wp _ _ _ [(0, .pointer (some ⟨h, 0, none⟩)), (1, .int .i64 i)] _ _
  refine Wp.seq ?_
  refine Wp.region ?_
  refine WL.val (v := .int .i64 0) rfl (Yl.assign rfl) ?_
  refine WL.nil ?_
  refine Fin.then ?_
  refine Wp.seq ?_
  refine Wp.region ?_
  refine WL.val (v := .pointer (some ⟨h, 0, none⟩)) rfl (Yl.move rfl) ?_
  refine WL.val (v := .int .i64 i) rfl (Yl.move rfl) ?_
  obtain ⟨D1, HP2, ro3, bk4, rr5⟩ := Own.enter (L1 := [net h ls]) (L2 := []) H
  refine WL.do rfl (Do.call Try.call9 rfl (Take_none h ls i _ _ HP2 (by first | omega | (simp; done) | (simp; omega))) ?_)
  rintro _ w6 ⟨rfl, HQ7⟩
  have H8 : Own w D w6 [net h ls] := bk4 _ _ HQ7
  refine WL.val (v := .tuple #[.agg #[.int .i64 0, .int .i64 0, .slice none 0 0], .int .i64 5]) rfl (Yl.move rfl) ?_
  refine WL.val (v := .agg #[.int .i64 0, .int .i64 0, .slice none 0 0]) rfl (Yl.kern rfl rfl (fun _ => by kernel_rfl)) ?_
  refine WL.val (v := .int .i64 5) rfl (Yl.kern rfl rfl (fun _ => by kernel_rfl)) ?_
  refine WL.do rfl (Do.newP (cs := [.int .i64 0, .int .i64 0, .slice none 0 0]) (t := 37) H8 rfl rfl (fun _ => by kernel_rfl) ?_)
  intro g9 w10 H11
  replace H11 : Own w D w10 [blk g9 [.int .i64 0, .int .i64 0, .slice none 0 0] 37, net h ls] := H11
  refine WL.do0 (Do.store (vs := [.int .i64 0, .int .i64 0, .slice none 0 0]) (o := 0) H11 rfl rfl Try.sizeOf37 rfl rfl rfl rfl ?_)
  intro w12 H13
  replace H13 : Own w D w12 [blk g9 [.int .i64 0, .int .i64 0, .slice none 0 0] 37, net h ls] := H13
  refine WL.val (v := .int .i64 5) rfl (Yl.assign rfl) ?_
  refine WL.nil ?_
  refine Fin.then ?_
  refine Wp.seq ?_
  refine Wp.region ?_
  refine WL.val (v := .int .i64 5) rfl (Yl.move rfl) ?_
  refine WL.val (v := .int .i64 5) rfl (Yl.assign rfl) ?_
  refine WL.nil ?_
  refine Fin.then ?_
  refine Wp.ret ?_
  refine Fin.res (res1 rfl rfl) ?_
  have H14 : Own w D w12 [net h ls] := H13.pick [1] (by decide) rfl
  exact ⟨rfl, H14⟩

set_option maxRecDepth 100000 in
theorem Double_ok (h m : Nat) (ls : List Lt) (l : Lt) (w : World) (D : Nat → Prop) (H : Own w D w [net h ls]) (hl : ls[m]? = some l) (hb : List.length l.bs ≤ 1000000) :
    Calls Try.prog 12 #[.pointer (some ⟨h, 0, none⟩), .int .i64 ((m : Nat) : Int)] w (Ret fun v w' => (128 ≤ List.length ls ∧ v = .int .i64 62 ∧ Own w D w' [net h ls]) ∨ (List.length ls < 128 ∧ v = .int .i64 0 ∧ ∃ A' c', Own w D w' [net h (ls ++ [Lt.mk l.fr l.to A' c' l.bs])])) := by
  have hm := (List.getElem?_eq_some_iff.1 hl).1
  refine Calls.body (args := [.pointer (some ⟨h, 0, none⟩), .int .i64 ((m : Nat) : Int)]) Try.func12 rfl rfl rfl ?_
  show Wp _ _ _ [(0, .pointer (some ⟨h, 0, none⟩)), (1, .int .i64 ((m : Nat) : Int))] _ _
  refine Wp.seq ?_
  refine Wp.region ?_
  refine WL.val (v := .int .i64 0) rfl (Yl.assign rfl) ?_
  refine WL.nil ?_
  refine Fin.then ?_
  refine Wp.seq ?_
  refine Wp.seq ?_
  refine Wp.region ?_
  refine WL.val (v := .pointer (some ⟨h, 0, none⟩)) rfl (Yl.move rfl) ?_
  refine WL.val (v := .int .i64 ((m : Nat) : Int)) rfl (Yl.move rfl) ?_
  obtain ⟨D1, HP2, ro3, bk4, rr5⟩ := Own.enter (L1 := [net h ls]) (L2 := []) H
  refine WL.do rfl (Do.call Try.call21 rfl (check_in h ls m (by omega) _ _ HP2) ?_)
  rintro _ w6 ⟨rfl, HQ7⟩
  have H8 : Own w D w6 [net h ls] := bk4 _ _ HQ7
  refine WL.val (v := .int .i64 0) rfl (Yl.assign rfl) ?_
  refine WL.nil ?_
  refine Fin.then ?_
  refine Wp.seq ?_
  refine Wp.region ?_
  refine WL.val (v := .int .i64 0) rfl (Yl.move rfl) ?_
  refine WL.val (v := .bool false) rfl (Yl.kern rfl rfl (fun _ => by kernel_rfl)) ?_
  refine WL.nil ?_
  refine Fin.then ?_
  refine Wp.cond0 rfl rfl ?_
  refine Wp.skip ?_
  refine Fin.then ?_
  refine Wp.seq ?_
  refine Wp.region ?_
  obtain ⟨A9, c10, H11⟩ := net.open H8
  have H11le := (H11.rowLe (i := 1) rfl).1
  have H11le2 := (H11.rowLe (i := 1) rfl).2.1
  unfold maxLen at H11le2
  refine WL.val (v := .pointer (some ⟨h, 0, none⟩)) rfl (Yl.move rfl) ?_
  refine WL.val (v := .pointer (some ⟨h, 0, none⟩)) rfl (Yl.move rfl) ?_
  refine WL.val (v := .pointer (some ⟨h, 0, none⟩)) rfl (Yl.kern rfl rfl (fun _ => by kernel_rfl)) ?_
  refine WL.val (v := .pointer (some ⟨h, 0, none⟩)) rfl (Yl.kern rfl rfl (fun _ => by kernel_rfl)) ?_
  refine WL.val (v := .slice A9 (List.length ls) c10) rfl (Yl.load rfl (Lds.one Try.isAgg52 (Cls.of (H11.cls (i := 0) rfl) rfl))) ?_
  refine WL.val (v := .int .i64 ((m : Nat) : Int)) rfl (Yl.move rfl) ?_
  refine WL.val (v := .pointer (some ⟨ab A9, ao A9 + m * 3, none⟩)) rfl (Yl.indexAddr (El52) rfl rfl ((H11.rds (i := 1) rfl).addr (i := m) (by omega)) (by omega)) ?_
  refine WL.val (v := .agg #[.int .i64 l.fr, .int .i64 l.to, .slice l.A (List.length l.bs) l.c]) rfl (Yl.load rfl (Lds.agg (cs := [.int .i64 l.fr, .int .i64 l.to, .slice l.A (List.length l.bs) l.c]) Try.isAgg37 Try.sizeOf37 ((H11.rds (i := 1) rfl).elem Lt.len hl (by decide)))) ?_
  have H12 : Own w D w6 [net h ls] := net.fold H11
  obtain ⟨D13, HP14, ro15, bk16, rr17⟩ := Own.enter (L1 := [net h ls]) (L2 := []) H12
  refine WL.do rfl (Do.call Try.call20 rfl (add_own h m ls l _ _ HP14 hl (by omega)) ?_)
  rintro _ w18 (⟨q20, rfl, HQ19⟩ | ⟨q22, rfl, A23, c24, HQ21⟩)
  · skip
    have H25 : Own w D w18 [net h ls] := bk16 _ _ HQ19
    refine WL.val (v := .int .i64 62) rfl (Yl.assign rfl) ?_
    refine WL.nil ?_
    refine Fin.then ?_
    refine Wp.ret ?_
    refine Fin.res (res1 rfl rfl) ?_
    exact .inl ⟨q20, rfl, H25⟩
  · skip
    have H26 : Own w D w18 [net h (ls ++ [(Lt.mk l.fr l.to A23 c24 l.bs)])] := bk16 _ _ HQ21
    refine WL.val (v := .int .i64 0) rfl (Yl.assign rfl) ?_
    refine WL.nil ?_
    refine Fin.then ?_
    refine Wp.ret ?_
    refine Fin.res (res1 rfl rfl) ?_
    exact .inr ⟨q22, rfl, A23, c24, H26⟩

set_option maxRecDepth 100000 in
theorem Double_none (h : Nat) (ls : List Lt) (i : Int) (w : World) (D : Nat → Prop) (H : Own w D w [net h ls]) (hi : ¬ (0 ≤ i ∧ i < ((List.length ls : Nat) : Int))) :
    Calls Try.prog 12 #[.pointer (some ⟨h, 0, none⟩), .int .i64 i] w (Ret fun v w' => v = .int .i64 5 ∧ Own w D w' [net h ls]) := by
  refine Calls.body (args := [.pointer (some ⟨h, 0, none⟩), .int .i64 i]) Try.func12 rfl rfl rfl ?_
  show Wp _ _ _ [(0, .pointer (some ⟨h, 0, none⟩)), (1, .int .i64 i)] _ _
  refine Wp.seq ?_
  refine Wp.region ?_
  refine WL.val (v := .int .i64 0) rfl (Yl.assign rfl) ?_
  refine WL.nil ?_
  refine Fin.then ?_
  refine Wp.seq ?_
  refine Wp.seq ?_
  refine Wp.region ?_
  refine WL.val (v := .pointer (some ⟨h, 0, none⟩)) rfl (Yl.move rfl) ?_
  refine WL.val (v := .int .i64 i) rfl (Yl.move rfl) ?_
  obtain ⟨D1, HP2, ro3, bk4, rr5⟩ := Own.enter (L1 := [net h ls]) (L2 := []) H
  refine WL.do rfl (Do.call Try.call21 rfl (check_out h ls i (by omega) _ _ HP2) ?_)
  rintro _ w6 ⟨rfl, HQ7⟩
  have H8 : Own w D w6 [net h ls] := bk4 _ _ HQ7
  refine WL.val (v := .int .i64 5) rfl (Yl.assign rfl) ?_
  refine WL.nil ?_
  refine Fin.then ?_
  refine Wp.seq ?_
  refine Wp.region ?_
  refine WL.val (v := .int .i64 5) rfl (Yl.move rfl) ?_
  refine WL.val (v := .bool true) rfl (Yl.kern rfl rfl (fun _ => by kernel_rfl)) ?_
  refine WL.nil ?_
  refine Fin.then ?_
  refine Wp.cond1 rfl rfl ?_
  refine Wp.seq ?_
  refine Wp.region ?_
  refine WL.val (v := .int .i64 5) rfl (Yl.move rfl) ?_
  refine WL.val (v := .int .i64 5) rfl (Yl.assign rfl) ?_
  refine WL.nil ?_
  refine Fin.then ?_
  refine Wp.ret ?_
  refine Fin.thenR ?_
  refine Fin.res (res1 rfl rfl) ?_
  have H9 : Own w D w6 [net h ls] := H8.pick [0] (by decide) rfl
  exact ⟨rfl, H9⟩

def Lt.z : Lt := ⟨0, 0, none, 0, []⟩
def Lt.key (l : Lt) : Int × Int × List UInt8 := (l.fr, l.to, l.bs)
def keys (ls : List Lt) : List (Int × Int × List UInt8) := ls.map Lt.key

set_option maxRecDepth 100000 in
theorem All_ok (h : Nat) (ls : List Lt) (w : World) (D : Nat → Prop) (H : Own w D w [net h ls]) (hle : List.length ls ≤ 1000000) (hbs : ∀ l ∈ ls, List.length l.bs ≤ 1000000) :
    Calls Try.prog 19 #[.pointer (some ⟨h, 0, none⟩)] w (Ret fun v w' => ∃ A ds, v = .slice A (List.length ls) (List.length ls) ∧ List.length ds = List.length ls ∧ keys ds = keys ls ∧ Own w D w' [net h ls, row A (List.length ls) (List.length ls) (List.flatMap Lt.cells ds) 37 3, sepL (List.map Lt.own ds)]) := by
  refine Calls.body (args := [.pointer (some ⟨h, 0, none⟩)]) Try.func19 rfl rfl rfl ?_
  show Wp _ _ _ [(0, .pointer (some ⟨h, 0, none⟩))] _ _
  obtain ⟨A1, c2, H3⟩ := net.open H
  have H3le := (H3.rowLe (i := 1) rfl).1
  have H3le2 := (H3.rowLe (i := 1) rfl).2.1
  unfold maxLen at H3le2
  refine Wp.seq ?_
  refine Wp.region ?_
  refine WL.val (v := .slice none 0 0) rfl (Yl.assign rfl) ?_
  refine WL.nil ?_
  refine Fin.then ?_
  refine Wp.seq ?_
  refine Wp.region ?_
  refine WL.val (v := .pointer (some ⟨h, 0, none⟩)) rfl (Yl.move rfl) ?_
  refine WL.val (v := .pointer (some ⟨h, 0, none⟩)) rfl (Yl.kern rfl rfl (fun _ => by kernel_rfl)) ?_
  refine WL.val (v := .pointer (some ⟨h, 0, none⟩)) rfl (Yl.kern rfl rfl (fun _ => by kernel_rfl)) ?_
  refine WL.val (v := .slice A1 (List.length ls) c2) rfl (Yl.load rfl (Lds.one Try.isAgg52 (Cls.of (H3.cls (i := 0) rfl) rfl))) ?_
  refine WL.val (v := .int .i64 ((List.length ls : Nat) : Int)) rfl (Yl.kern rfl rfl (fun _ => by kernel_rfl)) ?_
  refine WL.do rfl (Do.makeE (x0 := Lt.z) (z := .agg #[.int .i64 0, .int .i64 0, .slice none 0 0]) (k := List.length ls) (size := 3) (bytes := 40) Lt.len (by decide) rfl Try.underlying52 (by kernel_rfl) H3 rfl rfl (by omega) (by unfold maxLen; omega) ?_)
  intro A4 w5 H6
  replace H6 : Own w D w5 [row A4 (List.length ls) (List.length ls) (List.flatMap Lt.cells (List.replicate (List.length ls) Lt.z)) 37 3, blk h [.slice A1 (List.length ls) c2] 55, row A1 (List.length ls) c2 (List.flatMap Lt.cells ls) 37 3, sepL (List.map Lt.own ls)] := H6
  refine WL.val (v := .slice A4 (List.length ls) (List.length ls)) rfl (Yl.assign rfl) ?_
  refine WL.nil ?_
  refine Fin.then ?_
  refine Wp.seq ?_
  refine Wp.seq ?_
  refine Wp.region ?_
  refine WL.val (v := .pointer (some ⟨h, 0, none⟩)) rfl (Yl.move rfl) ?_
  refine WL.val (v := .pointer (some ⟨h, 0, none⟩)) rfl (Yl.kern rfl rfl (fun _ => by kernel_rfl)) ?_
  refine WL.val (v := .pointer (some ⟨h, 0, none⟩)) rfl (Yl.kern rfl rfl (fun _ => by kernel_rfl)) ?_
  refine WL.val (v := .slice A1 (List.length ls) c2) rfl (Yl.load rfl (Lds.one Try.isAgg52 (Cls.of (H6.cls (i := 1) rfl) rfl))) ?_
  refine WL.val (v := .int .i64 ((List.length ls : Nat) : Int)) rfl (Yl.kern rfl rfl (fun _ => by kernel_rfl)) ?_
  refine WL.val (v := .int .i64 0) rfl (Yl.move rfl) ?_
  refine WL.nil ?_
  refine Fin.then ?_
  refine Wp.block ?_
  have H8 : Own w D w5 [blk h [.slice A1 (List.length ls) c2] 55, row A1 (List.length ls) c2 (List.flatMap Lt.cells ls) 37 3, sepL (List.map Lt.own ls), row A4 (List.length ls) (List.length ls) (List.flatMap Lt.cells (List.replicate (List.length ls) Lt.z)) 37 3] := H6.pick [1, 2, 3, 0] (by decide) rfl
  have H7 := (H8.sepNil).pick [1, 2, 3, 4, 0] (by decide) rfl
  refine Wp.loop (ι := Nat × (List Lt)) (fun i => [(17, .int .i64 ((i.1 : Nat) : Int)), (16, .int .i64 ((List.length ls : Nat) : Int)), (15, .slice A1 (List.length ls) c2), (14, .pointer (some ⟨h, 0, none⟩)), (13, .pointer (some ⟨h, 0, none⟩)), (12, .pointer (some ⟨h, 0, none⟩)), (3, .slice A4 (List.length ls) (List.length ls)), (11, .slice A4 (List.length ls) (List.length ls)), (10, .int .i64 ((List.length ls : Nat) : Int)), (9, .slice A1 (List.length ls) c2), (8, .pointer (some ⟨h, 0, none⟩)), (7, .pointer (some ⟨h, 0, none⟩)), (6, .pointer (some ⟨h, 0, none⟩)), (2, .slice none 0 0), (0, .pointer (some ⟨h, 0, none⟩))]) (fun (i : Nat × (List Lt)) w' => Own w D w' [blk h [.slice A1 (List.length ls) c2] 55, row A1 (List.length ls) c2 (List.flatMap Lt.cells ls) 37 3, sepL (List.map Lt.own ls), row A4 (List.length ls) (List.length ls) (List.flatMap Lt.cells (i.2 ++ List.replicate (List.length ls - i.1) Lt.z)) 37 3, sepL (List.map Lt.own i.2)] ∧ (i.1 ≤ List.length ls ∧ List.length i.2 = i.1 ∧ keys i.2 = keys (List.take i.1 ls))) (fun i => List.length ls - i.1) (0, []) ⟨rfl, rfl, rfl, rfl, rfl, rfl, rfl, rfl, rfl, rfl, rfl, rfl, rfl, rfl, rfl, trivial⟩ ⟨H7, (show 0 ≤ List.length ls ∧ List.length ([]) = 0 ∧ keys ([]) = keys (List.take 0 ls) from ⟨by omega, rfl, rfl⟩)⟩ ?_
  rintro ⟨k, ds⟩ w9 ⟨H10, hf11⟩
  show Wp _ _ _ [(17, .int .i64 ((k : Nat) : Int)), (16, .int .i64 ((List.length ls : Nat) : Int)), (15, .slice A1 (List.length ls) c2), (14, .pointer (some ⟨h, 0, none⟩)), (13, .pointer (some ⟨h, 0, none⟩)), (12, .pointer (some ⟨h, 0, none⟩)), (3, .slice A4 (List.length ls) (List.length ls)), (11, .slice A4 (List.length ls) (List.length ls)), (10, .int .i64 ((List.length ls : Nat) : Int)), (9, .slice A1 (List.length ls) c2), (8, .pointer (some ⟨h, 0, none⟩)), (7, .pointer (some ⟨h, 0, none⟩)), (6, .pointer (some ⟨h, 0, none⟩)), (2, .slice none 0 0), (0, .pointer (some ⟨h, 0, none⟩))] _ _
  replace H10 : Own w D w9 [blk h [.slice A1 (List.length ls) c2] 55, row A1 (List.length ls) c2 (List.flatMap Lt.cells ls) 37 3, sepL (List.map Lt.own ls), row A4 (List.length ls) (List.length ls) (List.flatMap Lt.cells (ds ++ List.replicate (List.length ls - k) Lt.z)) 37 3, sepL (List.map Lt.own ds)] := H10
  replace hf11 : k ≤ List.length ls ∧ List.length ds = k ∧ keys ds = keys (List.take k ls) := hf11
  obtain ⟨hk0, hd, hk⟩ := hf11
  refine Wp.seq ?_
  refine Wp.region ?_
  refine WL.val (v := .bool (decide (((k : Nat) : Int) < ((List.length ls : Nat) : Int)))) rfl (Yl.kern rfl rfl (fun _ => by kernel_rfl)) ?_
  refine WL.nil ?_
  refine Fin.then ?_
  refine Wp.seq ?_
  by_cases h12 : ((k : Nat) : Int) < ((List.length ls : Nat) : Int)
  · skip
    refine Wp.cond1 rfl (decide_eq_true h12) ?_
    refine Wp.skip ?_
    refine Fin.then ?_
    refine Wp.seq ?_
    refine Wp.block ?_
    refine Wp.seq ?_
    refine Wp.region ?_
    refine WL.val (v := .int .i64 ((k : Nat) : Int)) rfl (Yl.move rfl) ?_
    obtain ⟨x13, hx14⟩ := rds_at (ls := ls) (i := k) Lt.len (by decide) (H10.rds (i := 1) rfl) (by first | omega | (simp; done) | (simp; omega))
    refine WL.val (v := .pointer (some ⟨ab A1, ao A1 + k * 3, none⟩)) rfl (Yl.indexAddr (El52) rfl rfl ((H10.rds (i := 1) rfl).addr (i := k) (by omega)) (by omega)) ?_
    refine WL.val (v := .agg #[.int .i64 x13.fr, .int .i64 x13.to, .slice x13.A (List.length x13.bs) x13.c]) rfl (Yl.load rfl (Lds.agg (cs := [.int .i64 x13.fr, .int .i64 x13.to, .slice x13.A (List.length x13.bs) x13.c]) Try.isAgg37 Try.sizeOf37 ((H10.rds (i := 1) rfl).elem Lt.len hx14 (by decide)))) ?_
    refine WL.do rfl (Do.newP (cs := [.int .i64 0, .int .i64 0, .slice none 0 0]) (t := 37) H10 rfl rfl (fun _ => by kernel_rfl) ?_)
    intro g15 w16 H17
    replace H17 : Own w D w16 [blk g15 [.int .i64 0, .int .i64 0, .slice none 0 0] 37, blk h [.slice A1 (List.length ls) c2] 55, row A1 (List.length ls) c2 (List.flatMap Lt.cells ls) 37 3, sepL (List.map Lt.own ls), row A4 (List.length ls) (List.length ls) (List.flatMap Lt.cells (ds ++ List.replicate (List.length ls - k) Lt.z)) 37 3, sepL (List.map Lt.own ds)] := H17
    refine WL.val (v := .int .i64 ((k : Nat) : Int)) rfl (Yl.assign rfl) ?_
    refine WL.do0 (Do.store (vs := [.int .i64 x13.fr, .int .i64 x13.to, .slice x13.A (List.length x13.bs) x13.c]) (o := 0) H17 rfl rfl Try.sizeOf37 rfl rfl rfl rfl ?_)
    intro w18 H19
    replace H19 : Own w D w18 [blk g15 [.int .i64 x13.fr, .int .i64 x13.to, .slice x13.A (List.length x13.bs) x13.c] 37, blk h [.slice A1 (List.length ls) c2] 55, row A1 (List.length ls) c2 (List.flatMap Lt.cells ls) 37 3, sepL (List.map Lt.own ls), row A4 (List.length ls) (List.length ls) (List.flatMap Lt.cells (ds ++ List.replicate (List.length ls - k) Lt.z)) 37 3, sepL (List.map Lt.own ds)] := H19
    refine WL.nil ?_
    refine Fin.then ?_
    refine Wp.region ?_
    refine WL.val (v := .slice A4 (List.length ls) (List.length ls)) rfl (Yl.move rfl) ?_
    refine WL.val (v := .int .i64 ((k : Nat) : Int)) rfl (Yl.move rfl) ?_
    refine WL.val (v := .agg #[.int .i64 x13.fr, .int .i64 x13.to, .slice x13.A (List.length x13.bs) x13.c]) rfl (Yl.load rfl (Lds.agg (cs := [.int .i64 x13.fr, .int .i64 x13.to, .slice x13.A (List.length x13.bs) x13.c]) Try.isAgg37 Try.sizeOf37 ((H19.cls (i := 0) rfl).lit (k := 0) (m := 3) rfl))) ?_
    have hbhx14 := hbs _ (List.mem_of_getElem? hx14)
    obtain ⟨D20, HP21, ro22, bk23, rr24⟩ := Own.enter (L1 := []) (L2 := [blk g15 [.int .i64 x13.fr, .int .i64 x13.to, .slice x13.A (List.length x13.bs) x13.c] 37, blk h [.slice A1 (List.length ls) c2] 55, row A1 (List.length ls) c2 (List.flatMap Lt.cells ls) 37 3, sepL (List.map Lt.own ls), row A4 (List.length ls) (List.length ls) (List.flatMap Lt.cells (ds ++ List.replicate (List.length ls - k) Lt.z)) 37 3, sepL (List.map Lt.own ds)]) H19
    refine WL.do rfl (Do.call Try.call23 rfl (again_ok x13 _ _ HP21 (rr24 _ 3 _ rfl (Lt.rd hx14)) (by omega)) ?_)
    rintro _ w25 ⟨A27, c28, rfl, HQ26⟩
    have H29 : Own w D w25 [Lt.own (Lt.mk x13.fr x13.to A27 c28 x13.bs), blk g15 [.int .i64 x13.fr, .int .i64 x13.to, .slice x13.A (List.length x13.bs) x13.c] 37, blk h [.slice A1 (List.length ls) c2] 55, row A1 (List.length ls) c2 (List.flatMap Lt.cells ls) 37 3, sepL (List.map Lt.own ls), row A4 (List.length ls) (List.length ls) (List.flatMap Lt.cells (ds ++ List.replicate (List.length ls - k) Lt.z)) 37 3, sepL (List.map Lt.own ds)] := bk23 _ _ HQ26
    obtain ⟨x30, hx31⟩ := rds_at (ls := (ds ++ List.replicate (List.length ls - k) Lt.z)) (i := k) Lt.len (by decide) (H29.rds (i := 5) rfl) (by first | omega | (simp; done) | (simp; omega))
    refine WL.val (v := .pointer (some ⟨ab A4, ao A4 + k * 3, none⟩)) rfl (Yl.indexAddr (El52) rfl rfl ((H29.rds (i := 5) rfl).addr (i := k) (by omega)) (by omega)) ?_
    have H32 : Own w D w25 [row A4 (List.length ls) (List.length ls) (List.flatMap Lt.cells (ds ++ List.replicate (List.length ls - k) Lt.z)) 37 3, Lt.own (Lt.mk x13.fr x13.to A27 c28 x13.bs), blk g15 [.int .i64 x13.fr, .int .i64 x13.to, .slice x13.A (List.length x13.bs) x13.c] 37, blk h [.slice A1 (List.length ls) c2] 55, row A1 (List.length ls) c2 (List.flatMap Lt.cells ls) 37 3, sepL (List.map Lt.own ls), sepL (List.map Lt.own ds)] := H29.pick [5, 0, 1, 2, 3, 4, 6] (by decide) rfl
    refine WL.do0 (Do.storeRow (vs := [.int .i64 x13.fr, .int .i64 x13.to, .slice A27 (List.length x13.bs) c28]) (o := k * 3 + 0) (q := ao A4 + k * 3) H32 rfl (by omega) rfl Try.sizeOf37 rfl rfl (Nat.le_of_ble_eq_true rfl) (store_fits Lt.len hx31 (Nat.le_of_ble_eq_true rfl)) (flat_set (y := ⟨x13.fr, x13.to, A27, c28, x13.bs⟩) Lt.len rfl (Nat.le_of_ble_eq_true rfl) hx31) ?_)
    intro w33 H34
    replace H34 : Own w D w33 [row A4 (List.length ls) (List.length ls) (List.flatMap Lt.cells (List.set (ds ++ List.replicate (List.length ls - k) Lt.z) k (⟨x13.fr, x13.to, A27, c28, x13.bs⟩))) 37 3, Lt.own (Lt.mk x13.fr x13.to A27 c28 x13.bs), blk g15 [.int .i64 x13.fr, .int .i64 x13.to, .slice x13.A (List.length x13.bs) x13.c] 37, blk h [.slice A1 (List.length ls) c2] 55, row A1 (List.length ls) c2 (List.flatMap Lt.cells ls) 37 3, sepL (List.map Lt.own ls), sepL (List.map Lt.own ds)] := H34
    refine WL.nil ?_
    refine Fin.blockN ?_
    refine Fin.then ?_
    refine Wp.region ?_
    refine WL.val (v := .int .i64 ((k + 1 : Nat) : Int)) rfl (Yl.int (e := IntKind.i64.wrap (((k : Nat) : Int) + 1)) (Yl.kern rfl rfl (fun _ => by kernel_rfl)) (by rw [IntWalk.i64_in _ (by omega)]; omega)) ?_
    refine WL.val (v := .int .i64 ((k + 1 : Nat) : Int)) rfl (Yl.move rfl) ?_
    refine WL.nil ?_
    have H35 : Own w D w33 [Lt.own (Lt.mk x13.fr x13.to A27 c28 x13.bs), sepL (List.map Lt.own ds), blk h [.slice A1 (List.length ls) c2] 55, row A1 (List.length ls) c2 (List.flatMap Lt.cells ls) 37 3, sepL (List.map Lt.own ls), row A4 (List.length ls) (List.length ls) (List.flatMap Lt.cells (List.set (ds ++ List.replicate (List.length ls - k) Lt.z) k (⟨x13.fr, x13.to, A27, c28, x13.bs⟩))) 37 3] := H34.pick [1, 6, 3, 4, 5, 0] (by decide) rfl
    have H36 := (H35.sepPush).pick [1, 2, 3, 4, 0] (by decide) rfl
    rw [set_rep ds Lt.z _ k _ hd (by omega), show List.map Lt.own ds ++ [Lt.own (Lt.mk x13.fr x13.to A27 c28 x13.bs)] = List.map Lt.own (ds ++ [(Lt.mk x13.fr x13.to A27 c28 x13.bs)]) by simp] at H36
    exact Fin.round (k + 1, ds ++ [(Lt.mk x13.fr x13.to A27 c28 x13.bs)]) ⟨rfl, rfl, rfl, rfl, rfl, rfl, rfl, rfl, rfl, rfl, rfl, rfl, rfl, rfl, rfl, trivial⟩ ⟨H36, (show (k + 1) ≤ List.length ls ∧ List.length (ds ++ [(Lt.mk x13.fr x13.to A27 c28 x13.bs)]) = (k + 1) ∧ keys (ds ++ [(Lt.mk x13.fr x13.to A27 c28 x13.bs)]) = keys (List.take (k + 1) ls) from ⟨by omega, by simp [hd], by simp only [keys, List.map_append, List.map_cons, List.map_nil] at hk ⊢; rw [hk, List.take_succ_eq_append_getElem (by omega), List.map_append]; congr 1; simp only [List.map_cons, List.map_nil, Lt.key]; rw [(List.getElem?_eq_some_iff.1 hx14).2]⟩)⟩ (by show List.length ls - (k + 1) < List.length ls - k; omega)
  · skip
    refine Wp.cond0 rfl (decide_eq_false h12) ?_
    refine Wp.exit ?_
    refine Fin.thenX ?_
    refine Fin.thenX ?_
    refine Fin.blockX ?_
    refine Fin.then ?_
    refine Wp.seq ?_
    refine Wp.region ?_
    refine WL.val (v := .slice A4 (List.length ls) (List.length ls)) rfl (Yl.move rfl) ?_
    refine WL.val (v := .slice A4 (List.length ls) (List.length ls)) rfl (Yl.assign rfl) ?_
    refine WL.nil ?_
    refine Fin.then ?_
    refine Wp.ret ?_
    refine Fin.res (res1 rfl rfl) ?_
    have H37 : Own w D w9 [blk h [.slice A1 (List.length ls) c2] 55, row A1 (List.length ls) c2 (List.flatMap Lt.cells ls) 37 3, sepL (List.map Lt.own ls), row A4 (List.length ls) (List.length ls) (List.flatMap Lt.cells (ds ++ List.replicate (List.length ls - k) Lt.z)) 37 3, sepL (List.map Lt.own ds)] := H10.pick [0, 1, 2, 3, 4] (by decide) rfl
    obtain rfl : k = List.length ls := by omega
    have HZ := net.fold H37
    rw [Nat.sub_self, List.replicate_zero, List.append_nil] at HZ
    exact ⟨_, ds, rfl, hd, by rw [hk, List.take_length], HZ⟩

set_option maxRecDepth 100000 in
theorem Spoil_ok (h m : Nat) (ls : List Lt) (l : Lt) (A : Option Addr) (c : Nat) (bs : List UInt8) (w : World) (D : Nat → Prop) (H : Own w D w [net h ls]) (hl : ls[m]? = some l) (hx : Ro w D fun w => Rds w 1 A (List.length bs) (List.flatMap eB bs)) :
    Calls Try.prog 14 #[.pointer (some ⟨h, 0, none⟩), .int .i64 ((m : Nat) : Int), .slice A (List.length bs) c] w (Ret fun v w' => (4103 < List.length bs ∧ v = .int .i64 2 ∧ Own w D w' [net h ls]) ∨ (List.length bs ≤ 4103 ∧ v = .int .i64 0 ∧ ∃ A' c', Own w D w' [net h (List.set ls m (Lt.mk l.fr l.to A' c' bs))])) := by
  have hm := (List.getElem?_eq_some_iff.1 hl).1
  refine Calls.body (args := [.pointer (some ⟨h, 0, none⟩), .int .i64 ((m : Nat) : Int), .slice A (List.length bs) c]) Try.func14 rfl rfl rfl ?_
  show Wp _ _ _ [(0, .pointer (some ⟨h, 0, none⟩)), (1, .int .i64 ((m : Nat) : Int)), (2, .slice A (List.length bs) c)] _ _
  refine Wp.seq ?_
  refine Wp.region ?_
  refine WL.val (v := .int .i64 0) rfl (Yl.assign rfl) ?_
  refine WL.nil ?_
  refine Fin.then ?_
  refine Wp.seq ?_
  refine Wp.seq ?_
  refine Wp.region ?_
  refine WL.val (v := .pointer (some ⟨h, 0, none⟩)) rfl (Yl.move rfl) ?_
  refine WL.val (v := .int .i64 ((m : Nat) : Int)) rfl (Yl.move rfl) ?_
  obtain ⟨D1, HP2, ro3, bk4, rr5⟩ := Own.enter (L1 := [net h ls]) (L2 := []) H
  refine WL.do rfl (Do.call Try.call21 rfl (check_in h ls m (by omega) _ _ HP2) ?_)
  rintro _ w6 ⟨rfl, HQ7⟩
  have H8 : Own w D w6 [net h ls] := bk4 _ _ HQ7
  refine WL.val (v := .int .i64 0) rfl (Yl.assign rfl) ?_
  refine WL.nil ?_
  refine Fin.then ?_
  refine Wp.seq ?_
  refine Wp.region ?_
  refine WL.val (v := .int .i64 0) rfl (Yl.move rfl) ?_
  refine WL.val (v := .bool false) rfl (Yl.kern rfl rfl (fun _ => by kernel_rfl)) ?_
  refine WL.nil ?_
  refine Fin.then ?_
  refine Wp.cond0 rfl rfl ?_
  refine Wp.skip ?_
  refine Fin.then ?_
  refine Wp.seq ?_
  refine Wp.seq ?_
  refine Wp.region ?_
  refine WL.val (v := .slice A (List.length bs) c) rfl (Yl.move rfl) ?_
  refine WL.val (v := .int .i64 ((List.length bs : Nat) : Int)) rfl (Yl.kern rfl rfl (fun _ => by kernel_rfl)) ?_
  refine WL.val (v := .bool (decide (((List.length bs : Nat) : Int) > 4103))) rfl (Yl.kern rfl rfl (fun _ => by kernel_rfl)) ?_
  refine WL.nil ?_
  refine Fin.then ?_
  by_cases h9 : ((List.length bs : Nat) : Int) > 4103
  · skip
    refine Wp.cond1 rfl (decide_eq_true h9) ?_
    refine Wp.seq ?_
    refine Wp.region ?_
    refine WL.val (v := .int .i64 2) rfl (Yl.assign rfl) ?_
    refine WL.nil ?_
    refine Fin.then ?_
    refine Wp.ret ?_
    refine Fin.thenR ?_
    refine Fin.res (res1 rfl rfl) ?_
    have H10 : Own w D w6 [net h ls] := H8.pick [0] (by decide) rfl
    exact .inl ⟨by omega, rfl, H10⟩
  · skip
    refine Wp.cond0 rfl (decide_eq_false h9) ?_
    refine Wp.skip ?_
    refine Fin.then ?_
    refine Wp.seq ?_
    obtain ⟨A11, c12, H13⟩ := net.open H8
    have H13le := (H13.rowLe (i := 1) rfl).1
    have H13le2 := (H13.rowLe (i := 1) rfl).2.1
    unfold maxLen at H13le2
    have H15 := H13.drew
    refine Wp.drawn (Keep [9] (fun W => ∃ L', Own w D W ([blk h [.slice A11 (List.length ls) c12] 55, row A11 (List.length ls) c12 (List.flatMap Lt.cells ls) 37 3] ++ L'))) (by kernel_rfl) (.inr ⟨_, H15⟩) ?_
    revert H15
    generalize World.drew w6 = w14
    intro H15
    replace H15 : Own w D w14 [blk h [.slice A11 (List.length ls) c12] 55, row A11 (List.length ls) c12 (List.flatMap Lt.cells ls) 37 3, sepL (List.map Lt.own ls)] := H15
    show GW _ _ _ _ 10 #[false, false, false, false, false, false, false, false, false, false] _ _ _
    refine GW.take (v := .pointer (some ⟨h, 0, none⟩)) (i := 0) (l' := #[true, false, false, false, false, false, false, false, false, false]) (rs := [[]]) rfl (by kernel_rfl) rfl (NoP.then NoP.base) (by kernel_rfl) (by kernel_rfl) (by kernel_rfl) (by kernel_rfl) (fun _ _ => Yl.move rfl) ?_
    refine GW.take (v := .pointer (some ⟨h, 0, none⟩)) (i := 1) (l' := #[true, true, false, false, false, false, false, false, false, false]) (rs := [[]]) rfl (by kernel_rfl) rfl (NoP.then NoP.base) (by kernel_rfl) (by kernel_rfl) (by kernel_rfl) (by kernel_rfl) (fun _ _ => Yl.kern rfl rfl (fun _ => by kernel_rfl)) ?_
    refine GW.take (v := .pointer (some ⟨h, 0, none⟩)) (i := 2) (l' := #[true, true, true, false, false, false, false, false, false, false]) (rs := [[]]) rfl (by kernel_rfl) rfl (NoP.then NoP.base) (by kernel_rfl) (by kernel_rfl) (by kernel_rfl) (by kernel_rfl) (fun _ _ => Yl.kern rfl rfl (fun _ => by kernel_rfl)) ?_
    refine GW.take (v := .slice A11 (List.length ls) c12) (i := 3) (l' := #[true, true, true, true, false, false, false, false, false, false]) (rs := [[]]) rfl (by kernel_rfl) rfl (NoP.then NoP.base) (by kernel_rfl) (by kernel_rfl) (by kernel_rfl) (by kernel_rfl) (fun _ ⟨_, H9⟩ => Yl.load rfl (Lds.one Try.isAgg52 (Cls.of (H9.cls (i := 0) rfl) rfl))) ?_
    refine GW.take (v := .int .i64 ((m : Nat) : Int)) (i := 4) (l' := #[true, true, true, true, true, false, false, false, false, false]) (rs := [[]]) rfl (by kernel_rfl) rfl (NoP.then NoP.base) (by kernel_rfl) (by kernel_rfl) (by kernel_rfl) (by kernel_rfl) (fun _ _ => Yl.move rfl) ?_
    refine GW.take (v := .slice A (List.length bs) c) (i := 5) (l' := #[true, true, true, true, true, true, false, false, false, false]) (rs := [[]]) rfl (by kernel_rfl) rfl (NoP.then NoP.base) (by kernel_rfl) (by kernel_rfl) (by kernel_rfl) (by kernel_rfl) (fun _ _ => Yl.move rfl) ?_
    obtain ⟨D17, HP18, ro19, bk20, rr21⟩ := Own.enter (L1 := []) (L2 := [blk h [.slice A11 (List.length ls) c12] 55, row A11 (List.length ls) c12 (List.flatMap Lt.cells ls) 37 3, sepL (List.map Lt.own ls)]) H15
    refine GW.do (i := 6) (l' := #[true, true, true, true, true, true, true, false, false, false]) rfl rfl (by kernel_rfl) (by kernel_rfl) (Do.call Try.call22 rfl (bclone_ok A c bs _ _ HP18 (ro19 _ hx) (by omega)) ?_)
    rintro _ w22 ⟨A24, c25, rfl, HQ23⟩
    have H26 : Own w D w22 [row A24 (List.length bs) c25 (List.flatMap eB bs) 5 1, blk h [.slice A11 (List.length ls) c12] 55, row A11 (List.length ls) c12 (List.flatMap Lt.cells ls) 37 3, sepL (List.map Lt.own ls)] := bk20 _ _ HQ23
    have H27 : Own w D w22 [blk h [.slice A11 (List.length ls) c12] 55, row A11 (List.length ls) c12 (List.flatMap Lt.cells ls) 37 3, row A24 (List.length bs) c25 (List.flatMap eB bs) 5 1, sepL (List.map Lt.own ls)] := H26.pick [1, 2, 0, 3] (by decide) rfl
    refine ⟨.inr ⟨_, H27⟩, ?_⟩
    show GW _ _ _ _ 3 #[true, true, true, true, true, true, true, false, false, false] _ _ _
    refine GW.take (v := .pointer (some ⟨ab A11, ao A11 + m * 3, none⟩)) (i := 7) (l' := #[true, true, true, true, true, true, true, true, false, false]) (rs := [[8]]) rfl (by kernel_rfl) rfl (NoP.then NoP.base) (by kernel_rfl) (by kernel_rfl) (by kernel_rfl) (by kernel_rfl) (fun _ ⟨_, H9⟩ => Yl.indexAddr (El52) rfl rfl ((H9.rds (i := 1) rfl).addr (i := m) (by omega)) (by omega)) ?_
    refine GW.take (v := .pointer (some ⟨ab A11, ao A11 + m * 3 + 2, none⟩)) (i := 8) (l' := #[true, true, true, true, true, true, true, true, true, false]) (rs := [[]]) rfl (by kernel_rfl) rfl (NoP.then NoP.base) (by kernel_rfl) (by kernel_rfl) (by kernel_rfl) (by kernel_rfl) (fun _ _ => Yl.kern rfl rfl (fun _ => by kernel_rfl)) ?_
    have H28 : Own w D w22 [row A11 (List.length ls) c12 (List.flatMap Lt.cells ls) 37 3, blk h [.slice A11 (List.length ls) c12] 55, row A24 (List.length bs) c25 (List.flatMap eB bs) 5 1, sepL (List.map Lt.own ls)] := H27.pick [1, 0, 2, 3] (by decide) rfl
    refine GW.do0 (i := 9) (l' := #[true, true, true, true, true, true, true, true, true, true]) rfl (by kernel_rfl) (by kernel_rfl) (Do.storeRow (vs := [.slice A24 (List.length bs) c25]) (o := m * 3 + 2) (q := ao A11 + m * 3 + 2) H28 rfl (by omega) rfl Try.sizeOf32 rfl rfl (Nat.le_of_ble_eq_true rfl) (store_fits Lt.len hl (Nat.le_of_ble_eq_true rfl)) (flat_set (y := ⟨l.fr, l.to, A24, c25, bs⟩) Lt.len rfl (Nat.le_of_ble_eq_true rfl) hl) ?_)
    intro w29 H30
    replace H30 : Own w D w29 [row A11 (List.length ls) c12 (List.flatMap Lt.cells (List.set ls m (⟨l.fr, l.to, A24, c25, bs⟩))) 37 3, blk h [.slice A11 (List.length ls) c12] 55, row A24 (List.length bs) c25 (List.flatMap eB bs) 5 1, sepL (List.map Lt.own ls)] := H30
    refine ⟨.inl rfl, ?_⟩
    show GW _ _ _ _ 0 #[true, true, true, true, true, true, true, true, true, true] _ _ _
    refine GW.done (by kernel_rfl) ?_
    refine Fin.then ?_
    refine Wp.seq ?_
    refine Wp.region ?_
    refine WL.val (v := .int .i64 0) rfl (Yl.assign rfl) ?_
    refine WL.nil ?_
    refine Fin.then ?_
    refine Wp.ret ?_
    refine Fin.res (res1 rfl rfl) ?_
    have H31 : Own w D w29 [row A24 (List.length bs) c25 (List.flatMap eB bs) 5 1, sepL (List.map Lt.own ls), blk h [.slice A11 (List.length ls) c12] 55, row A11 (List.length ls) c12 (List.flatMap Lt.cells (List.set ls m (⟨l.fr, l.to, A24, c25, bs⟩))) 37 3] := H30.pick [2, 3, 1, 0] (by decide) rfl
    have HS := H31.sepSet (i := m) (by rw [List.length_map]; exact hm)
    have HS2 := HS.pick [1, 2, 0] (by decide) rfl
    exact .inr ⟨by omega, rfl, A24, c25, net.fold2 (by simp) (by rw [List.map_set]; rfl) HS2⟩

set_option maxRecDepth 100000 in
theorem Spoil_none (h : Nat) (ls : List Lt) (i : Int) (A : Option Addr) (n c : Nat) (w : World) (D : Nat → Prop) (H : Own w D w [net h ls]) (hi : ¬ (0 ≤ i ∧ i < ((List.length ls : Nat) : Int))) :
    Calls Try.prog 14 #[.pointer (some ⟨h, 0, none⟩), .int .i64 i, .slice A n c] w (Ret fun v w' => v = .int .i64 5 ∧ Own w D w' [net h ls]) := by
  refine Calls.body (args := [.pointer (some ⟨h, 0, none⟩), .int .i64 i, .slice A n c]) Try.func14 rfl rfl rfl ?_
  show Wp _ _ _ [(0, .pointer (some ⟨h, 0, none⟩)), (1, .int .i64 i), (2, .slice A n c)] _ _
  refine Wp.seq ?_
  refine Wp.region ?_
  refine WL.val (v := .int .i64 0) rfl (Yl.assign rfl) ?_
  refine WL.nil ?_
  refine Fin.then ?_
  refine Wp.seq ?_
  refine Wp.seq ?_
  refine Wp.region ?_
  refine WL.val (v := .pointer (some ⟨h, 0, none⟩)) rfl (Yl.move rfl) ?_
  refine WL.val (v := .int .i64 i) rfl (Yl.move rfl) ?_
  obtain ⟨D1, HP2, ro3, bk4, rr5⟩ := Own.enter (L1 := [net h ls]) (L2 := []) H
  refine WL.do rfl (Do.call Try.call21 rfl (check_out h ls i (by omega) _ _ HP2) ?_)
  rintro _ w6 ⟨rfl, HQ7⟩
  have H8 : Own w D w6 [net h ls] := bk4 _ _ HQ7
  refine WL.val (v := .int .i64 5) rfl (Yl.assign rfl) ?_
  refine WL.nil ?_
  refine Fin.then ?_
  refine Wp.seq ?_
  refine Wp.region ?_
  refine WL.val (v := .int .i64 5) rfl (Yl.move rfl) ?_
  refine WL.val (v := .bool true) rfl (Yl.kern rfl rfl (fun _ => by kernel_rfl)) ?_
  refine WL.nil ?_
  refine Fin.then ?_
  refine Wp.cond1 rfl rfl ?_
  refine Wp.seq ?_
  refine Wp.region ?_
  refine WL.val (v := .int .i64 5) rfl (Yl.move rfl) ?_
  refine WL.val (v := .int .i64 5) rfl (Yl.assign rfl) ?_
  refine WL.nil ?_
  refine Fin.then ?_
  refine Wp.ret ?_
  refine Fin.thenR ?_
  refine Fin.res (res1 rfl rfl) ?_
  have H9 : Own w D w6 [net h ls] := H8.pick [0] (by decide) rfl
  exact ⟨rfl, H9⟩

set_option maxRecDepth 100000 in
theorem Clone_ok (h : Nat) (ls : List Lt) (w : World) (D : Nat → Prop) (H : Own w D w [net h ls]) (hle : List.length ls ≤ 1000000) (hbs : ∀ l ∈ ls, List.length l.bs ≤ 1000000) :
    Calls Try.prog 17 #[.pointer (some ⟨h, 0, none⟩)] w (Ret fun v w' => ∃ h' ds, v = .pointer (some ⟨h', 0, none⟩) ∧ keys ds = keys ls ∧ Own w D w' [net h ls, net h' ds]) := by
  refine Calls.body (args := [.pointer (some ⟨h, 0, none⟩)]) Try.func17 rfl rfl rfl ?_
  show Wp _ _ _ [(0, .pointer (some ⟨h, 0, none⟩))] _ _
  refine Wp.seq ?_
  refine Wp.region ?_
  refine WL.val (v := .pointer none) rfl (Yl.assign rfl) ?_
  refine WL.nil ?_
  refine Fin.then ?_
  refine Wp.seq ?_
  refine Wp.region ?_
  refine WL.val (v := .pointer (some ⟨h, 0, none⟩)) rfl (Yl.move rfl) ?_
  obtain ⟨D1, HP2, ro3, bk4, rr5⟩ := Own.enter (L1 := [net h ls]) (L2 := []) H
  refine WL.do rfl (Do.call Try.call19 rfl (All_ok h ls _ _ HP2 hle hbs) ?_)
  rintro _ w6 ⟨A8, ds9, rfl, hd10, hk11, HQ7⟩
  have H12 : Own w D w6 [net h ls, row A8 (List.length ls) (List.length ls) (List.flatMap Lt.cells ds9) 37 3, sepL (List.map Lt.own ds9)] := bk4 _ _ HQ7
  refine WL.val (v := .agg #[.slice A8 (List.length ls) (List.length ls)]) rfl (Yl.kern rfl rfl (fun _ => by kernel_rfl)) ?_
  refine WL.do rfl (Do.newP (cs := [.slice A8 (List.length ls) (List.length ls)]) (t := 55) H12 rfl rfl (fun _ => by kernel_rfl) ?_)
  intro g13 w14 H15
  replace H15 : Own w D w14 [blk g13 [.slice A8 (List.length ls) (List.length ls)] 55, net h ls, row A8 (List.length ls) (List.length ls) (List.flatMap Lt.cells ds9) 37 3, sepL (List.map Lt.own ds9)] := H15
  refine WL.val (v := .pointer (some ⟨g13, 0, none⟩)) rfl (Yl.assign rfl) ?_
  refine WL.nil ?_
  refine Fin.then ?_
  refine Wp.ret ?_
  refine Fin.res (res1 rfl rfl) ?_
  have H16 : Own w D w14 [blk g13 [.slice A8 (List.length ls) (List.length ls)] 55, row A8 (List.length ls) (List.length ls) (List.flatMap Lt.cells ds9) 37 3, sepL (List.map Lt.own ds9), net h ls] := H15.pick [0, 2, 3, 1] (by decide) rfl
  exact ⟨_, ds9, rfl, hk11, (net.fold2 hd10.symm rfl H16).pick [1, 0] (by decide) rfl⟩

theorem Double_put (h m : Nat) (ls : List Lt) (l : Lt) (w : World) (D : Nat → Prop) (H : Own w D w [net h ls]) (hl : ls[m]? = some l) (hb : List.length l.bs ≤ 1000000) (hf : List.length ls < 128) :
    Calls Try.prog 12 #[.pointer (some ⟨h, 0, none⟩), .int .i64 ((m : Nat) : Int)] w (Ret fun v w' => v = .int .i64 0 ∧ ∃ A' c', Own w D w' [net h (ls ++ [Lt.mk l.fr l.to A' c' l.bs])]) :=
  Ret.mono (Double_ok h m ls l w D H hl hb) fun v w' r => by
    rcases r with ⟨r, _⟩ | ⟨_, r⟩
    · omega
    · exact r
end Go.Proofs.Ytbflloaamnphkaa
