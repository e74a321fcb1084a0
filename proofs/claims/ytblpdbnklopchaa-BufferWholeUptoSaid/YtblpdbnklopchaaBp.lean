/-
  buffer: entries done to a map; the document's answers.
-/
import Derived.Test.YtblpdbnklopchaaBo
namespace Go.Proofs.Ytblpdbnklopchaa
open Go.RowKit
set_option linter.unusedVariables false
set_option linter.unusedSectionVars false
set_option linter.unusedSimpArgs false

def buffer_Apply_L0 (l0 : List PairD) : List EntryD → Nat → List OpD → (List OpD)
  | [], k46, l47 => l47
  | x57 :: q48, k46, l47 => buffer_Apply_L0 l0 q48 (k46 + 1) (List.set l47 k46 (⟨x57.xOp.xKind, x57.xOp.xKey, x57.xOp.xValue, x57.xOp.xLo, x57.xOp.xHi, x57.xOp.xMost⟩))

def buffer_Apply (l0 : List PairD) (l1 : List EntryD) : (List PairD) × Int :=
  bnd (op_CheckMap l0) fun yr26 => if yr26 = 0 then bnd (buffer_Check l1) fun yr37 => if yr37 = 0 then bnd (buffer_Apply_L0 l0 l1 0 (List.replicate l1.length (OpD.mk 0 [] [] [] [] 0))) fun sLrbtbtL => bnd (op_Apply l0 sLrbtbtL) fun yr77 => (yr77.1, yr77.2.2) else ([], yr37) else ([], yr26)

set_option maxRecDepth 100000 in
theorem buffer_Apply_ok (w : World) (D : Nat → Prop) (A0 : Option Addr) (n0 c0 : Nat) (l0 : List PairD) (A1 : Option Addr) (n1 c1 : Nat) (l1 : List EntryD) (r0 : List PairD) (r1 : Int) (H : Own w D w []) (hx0 : Ro w D fun w' => Rds w' 2 A0 n0 (List.flatMap PairD.cells l0)) (hn0 : n0 = l0.length) (hl0 : l0.length * 32 ≤ 211106232532992) (hx1 : Ro w D fun w' => Rds w' 7 A1 n1 (List.flatMap EntryD.cells l1)) (hn1 : n1 = l1.length) (hl1 : l1.length * 88 ≤ 211106232532992) (hh0 : (l0.length + l1.length) * 32 ≤ 211106232532992) (hr : buffer_Apply l0 l1 = (r0, r1)) :
    Calls Try.prog 13 #[.slice A0 n0 c0, .slice A1 n1 c1] w (Ret fun v w' => ∃ (B0 : Option Addr) (b0 : Nat), v = .tuple #[.slice B0 r0.length b0, .int .i64 r1] ∧ Own w D w' [row B0 r0.length b0 (List.flatMap PairD.cells r0) 76 2] ∧ (r0.length ≤ l0.length + l1.length)) := by
  subst hn0 hn1
  refine Calls.body (args := [.slice A0 l0.length c0, .slice A1 l1.length c1]) Try.func13 rfl rfl rfl ?_
  show Wp _ _ _ [(0, .slice A0 l0.length c0), (1, .slice A1 l1.length c1)] _ _
  refine Wp.seq (Wp.region (As rfl rfl (As rfl rfl (WL.nil (Fin.then (Wp.seq (Wp.seq (Wp.region (Mv rfl rfl ?_)))))))))
  obtain ⟨r26, hr27⟩ : ∃ q, op_CheckMap l0 = q := ⟨_, rfl⟩
  obtain ⟨D21, HP22, ro23, bk24, rr25⟩ := Own.enter0 H
  refine WL.do rfl (Do.call Try.call18 rfl (op_CheckMap_ok _ _ A0 l0.length c0 l0 r26 HP22 (ro23 _ hx0) rfl (by omega) hr27) ?_)
  rintro _ w28 ⟨rfl, HQ29⟩
  have H30 := bk24 _ _ HQ29
  refine As rfl rfl (WL.nil (Fin.then (Wp.seq (Wp.region (Mv rfl rfl (WL.val (v := .bool (decide (¬ (r26 = 0)))) rfl (Yl.bool (e := !(decide (r26 = 0))) (Yl.kern rfl rfl (fun _ => by kernel_rfl)) decide_not.symm) (WL.nil (Fin.then ?_))))))))
  by_cases h31 : r26 = 0
  refine Wp.cond0 rfl (decide_eq_false (not_not_intro h31)) (Wp.skip (Fin.then (Wp.seq (Wp.seq (Wp.region (Mv rfl rfl ?_))))))
  obtain ⟨r37, hr38⟩ : ∃ q, buffer_Check l1 = q := ⟨_, rfl⟩
  obtain ⟨D32, HP33, ro34, bk35, rr36⟩ := Own.enter0 H30
  refine WL.do rfl (Do.call Try.call10 rfl (buffer_Check_ok _ _ A1 l1.length c1 l1 r37 HP33 (ro34 _ hx1) rfl (by omega) hr38) ?_)
  rintro _ w39 ⟨rfl, HQ40⟩
  have H41 := bk35 _ _ HQ40
  refine As rfl rfl (WL.nil (Fin.then (Wp.seq (Wp.region (Mv rfl rfl (WL.val (v := .bool (decide (¬ (r37 = 0)))) rfl (Yl.bool (e := !(decide (r37 = 0))) (Yl.kern rfl rfl (fun _ => by kernel_rfl)) decide_not.symm) (WL.nil (Fin.then ?_))))))))
  by_cases h42 : r37 = 0
  refine Wp.cond0 rfl (decide_eq_false (not_not_intro h42)) (Wp.skip (Fin.then (Wp.seq (Wp.region (Mv rfl rfl (Kn (v := .int .i64 ((l1.length : Nat) : Int)) rfl rfl rfl (fun _ => by kernel_rfl) ?_))))))
  refine WL.do rfl (Do.makeE (x0 := (OpD.mk 0 [] [] [] [] 0)) (z := .agg #[.int .i64 0, .string ⟨List.toArray ([])⟩, .string ⟨List.toArray ([])⟩, .string ⟨List.toArray ([])⟩, .string ⟨List.toArray ([])⟩, .int .i64 0]) (k := l1.length) (size := 6) (bytes := 80) OpD.len (by decide) rfl Try.underlying71 (by kernel_rfl) H41 rfl rfl (by omega) (by unfold maxLen; omega) ?_)
  intro A43 w44 H45
  refine As rfl rfl (WL.nil (Fin.then (Wp.seq (Wp.seq (Wp.region (Mv rfl rfl (Kn (v := .int .i64 ((l1.length : Nat) : Int)) rfl rfl rfl (fun _ => by kernel_rfl) (Mv rfl rfl (WL.nil (Fin.then (Wp.block ?_)))))))))))
  have H49 := H45.pick [0] (by decide) rfl
  refine Wp.loop (ι := Nat × (List OpD)) (fun i => [(29, .int .i64 ((i.1 : Nat) : Int)), (28, .int .i64 ((l1.length : Nat) : Int)), (27, .slice A1 l1.length c1), (8, .slice A43 l1.length l1.length), (5, .int .i64 0), (4, .slice none 0 0), (0, .slice A0 l0.length c0)]) (fun (i : Nat × (List OpD)) w' => Own w D w' [row A43 l1.length l1.length (List.flatMap OpD.cells i.2) 50 6] ∧ (i.2.length = l1.length ∧ i.1 ≤ l1.length ∧ buffer_Apply_L0 l0 l1 0 (List.replicate l1.length (OpD.mk 0 [] [] [] [] 0)) = buffer_Apply_L0 l0 (List.drop i.1 l1) i.1 i.2)) (fun i => l1.length - i.1) (0, (List.replicate l1.length (OpD.mk 0 [] [] [] [] 0))) ⟨rfl, rfl, rfl, rfl, rfl, rfl, rfl, trivial⟩ ⟨H49, (show List.length (List.replicate l1.length (OpD.mk 0 [] [] [] [] 0)) = l1.length ∧ 0 ≤ l1.length ∧ buffer_Apply_L0 l0 l1 0 (List.replicate l1.length (OpD.mk 0 [] [] [] [] 0)) = buffer_Apply_L0 l0 (List.drop 0 l1) 0 (List.replicate l1.length (OpD.mk 0 [] [] [] [] 0)) from ⟨by first | omega | (simp only [List.length_set]; omega) | (simp only [List.length_replicate]), by omega, rfl⟩)⟩ ?_
  rintro ⟨k46, l47⟩ w50 ⟨H51, hf52⟩
  show Wp _ _ _ [(29, .int .i64 ((k46 : Nat) : Int)), (28, .int .i64 ((l1.length : Nat) : Int)), (27, .slice A1 l1.length c1), (8, .slice A43 l1.length l1.length), (5, .int .i64 0), (4, .slice none 0 0), (0, .slice A0 l0.length c0)] _ _
  replace hf52 : l47.length = l1.length ∧ k46 ≤ l1.length ∧ buffer_Apply_L0 l0 l1 0 (List.replicate l1.length (OpD.mk 0 [] [] [] [] 0)) = buffer_Apply_L0 l0 (List.drop k46 l1) k46 l47 := hf52
  obtain ⟨hi54, hi55, hq53⟩ := hf52
  refine Wp.seq (Wp.region (Kn (v := .bool (decide (((k46 : Nat) : Int) < ((l1.length : Nat) : Int)))) rfl rfl rfl (fun _ => by kernel_rfl) (WL.nil (Fin.then (Wp.seq ?_)))))
  by_cases h56 : ((k46 : Nat) : Int) < ((l1.length : Nat) : Int)
  obtain ⟨x57, hx58⟩ := rds_at (ls := l1) (i := k46) EntryD.len (by decide) (H51.ro hx1) (by first | omega | (simp; done) | (simp; omega))
  have hd59 := drop_at hx58
  refine Wp.cond1 rfl (decide_eq_true h56) (Wp.skip (Fin.then (Wp.seq (Wp.block (Wp.seq (Wp.region (Mv rfl rfl (WL.val (v := .pointer (some ⟨ab A1, ao A1 + k46 * 7, none⟩)) rfl (Yl.indexAddr (El22) rfl rfl ((H51.ro hx1).addr (i := k46) (by omega)) (by omega)) (WL.val (v := .agg (EntryD.cells x57).toArray) rfl (Yl.load rfl (Lds.agg (cs := (EntryD.cells x57)) Try.isAgg52 Try.sizeOf52 ((H51.ro hx1).elem EntryD.len hx58 (by decide)))) ?_)))))))))
  refine WL.do rfl (Do.newP (cs := [.int .u64 0, .int .i64 0, .string ⟨List.toArray ([])⟩, .string ⟨List.toArray ([])⟩, .string ⟨List.toArray ([])⟩, .string ⟨List.toArray ([])⟩, .int .i64 0]) (t := 52) H51 rfl rfl (fun _ => by kernel_rfl) ?_)
  intro g60 w61 H62
  refine As rfl rfl ?_
  refine WL.do0 (Do.store (vs := (EntryD.cells x57)) (o := 0) H62 rfl rfl Try.sizeOf52 rfl rfl rfl rfl ?_)
  intro w63 H64
  refine WL.nil (Fin.then (Wp.region (Mv rfl rfl (Mv rfl rfl (Kn (v := .pointer (some ⟨g60, 1, none⟩)) rfl rfl rfl (fun _ => by kernel_rfl) (WL.val (v := .agg (OpD.cells x57.xOp).toArray) rfl (Yl.load rfl (Lds.agg (cs := (OpD.cells x57.xOp)) Try.isAgg50 Try.sizeOf50 ((H64.cls (i := 0) rfl).lit (k := 1) (m := 6) rfl))) ?_))))))
  obtain ⟨x65, hx66⟩ := rds_at (ls := l47) (i := k46) OpD.len (by decide) (H64.rds (i := 1) rfl) (by first | omega | (simp; done) | (simp; omega))
  refine WL.val (v := .pointer (some ⟨ab A43, ao A43 + k46 * 6, none⟩)) rfl (Yl.indexAddr (El71) rfl rfl ((H64.rds (i := 1) rfl).addr (i := k46) (by omega)) (by omega)) ?_
  have H67 := H64.pick [1, 0] (by decide) rfl
  refine WL.do0 (Do.storeRow (vs := (OpD.cells x57.xOp)) (o := k46 * 6 + 0) (q := ao A43 + k46 * 6) H67 rfl (by omega) rfl Try.sizeOf50 rfl rfl (Nat.le_of_ble_eq_true rfl) (store_fits OpD.len hx66 (Nat.le_of_ble_eq_true rfl)) (flat_set (y := ⟨x57.xOp.xKind, x57.xOp.xKey, x57.xOp.xValue, x57.xOp.xLo, x57.xOp.xHi, x57.xOp.xMost⟩) OpD.len rfl (Nat.le_of_ble_eq_true rfl) hx66) ?_)
  intro w68 H69
  refine WL.nil (Fin.blockN (Fin.then (Wp.region (WL.val (v := .int .i64 ((k46 + 1 : Nat) : Int)) rfl (Yl.int (e := IntKind.i64.wrap (((k46 : Nat) : Int) + 1)) (Yl.kern rfl rfl (fun _ => by kernel_rfl)) (by rw [IntWalk.i64_in _ (by omega)]; omega)) (Mv rfl rfl (WL.nil ?_))))))
  have H70 := H69.pick [0] (by decide) rfl
  exact Fin.round (k46 + 1, (List.set l47 k46 (⟨x57.xOp.xKind, x57.xOp.xKey, x57.xOp.xValue, x57.xOp.xLo, x57.xOp.xHi, x57.xOp.xMost⟩))) ⟨rfl, rfl, rfl, rfl, rfl, rfl, rfl, trivial⟩ ⟨H70, (show List.length (List.set l47 k46 (⟨x57.xOp.xKind, x57.xOp.xKey, x57.xOp.xValue, x57.xOp.xLo, x57.xOp.xHi, x57.xOp.xMost⟩)) = l1.length ∧ (k46 + 1) ≤ l1.length ∧ buffer_Apply_L0 l0 l1 0 (List.replicate l1.length (OpD.mk 0 [] [] [] [] 0)) = buffer_Apply_L0 l0 (List.drop (k46 + 1) l1) (k46 + 1) (List.set l47 k46 (⟨x57.xOp.xKind, x57.xOp.xKey, x57.xOp.xValue, x57.xOp.xLo, x57.xOp.xHi, x57.xOp.xMost⟩)) from ⟨by first | omega | (simp only [List.length_set]; omega) | (simp only [List.length_replicate]), by omega, Eq.trans (hq53) (Eq.trans (congrArg (fun q => buffer_Apply_L0 l0 q k46 l47) hd59) rfl)⟩)⟩ (by show l1.length - (k46 + 1) < l1.length - k46; omega)
  refine Wp.cond0 rfl (decide_eq_false h56) (Wp.exit (Fin.thenX ?_))
  have hL71 : buffer_Apply_L0 l0 l1 0 (List.replicate l1.length (OpD.mk 0 [] [] [] [] 0)) = l47 := Eq.trans (hq53) (Eq.trans (congrArg (fun q => buffer_Apply_L0 l0 q k46 l47) (drop_end (ls := l1) (i := k46) (by omega))) rfl)
  refine Fin.thenX (Fin.blockX (Fin.then (Wp.seq (Wp.region (Mv rfl rfl (Mv rfl rfl ?_))))))
  obtain ⟨⟨r77, r78, r79⟩, hr80⟩ : ∃ q : (List PairD) × (List ResultT) × Int, op_Apply l0 l47 = q := ⟨_, rfl⟩
  obtain ⟨D72, HP73, ro74, bk75, rr76⟩ := Own.enter0 H51
  refine WL.do rfl (Do.call Try.call37 rfl (op_Apply_ok _ _ A0 l0.length c0 l0 A43 l1.length l1.length l47 r77 r78 r79 HP73 (ro74 _ hx0) rfl (by omega) (rr76 _ 0 _ rfl row_rds) (by first | rfl | omega | (simp only [List.length_append, List.length_cons, List.length_nil, List.length_take, List.length_drop, List.length_set, List.length_replicate, List.length_map] <;> omega)) (by omega) (by first | omega | (simp only [List.length_cons, List.length_nil]; done) | (simp only [List.length_cons, List.length_nil, List.length_take, List.length_drop]; omega)) hr80) ?_)
  rintro _ w81 ⟨A84, c85, A86, c87, d88, rfl, HQ82, hd89, hk90, hk91⟩
  have H83 := bk75 _ _ HQ82
  have hl92 := abs_len hd89
  have hb93 := H83.rowC (i := 0) rfl
  have hb94 := H83.rowC (i := 1) rfl
  replace hk90 : r77.length ≤ l0.length + l47.length := hk90
  replace hk91 : r78.length ≤ l47.length := hk91
  refine Mv rfl rfl (Kn (v := .slice A84 r77.length c85) rfl rfl rfl (fun _ => by kernel_rfl) (Kn (v := .slice A86 r78.length c87) rfl rfl rfl (fun _ => by kernel_rfl) (Kn (v := .int .i64 r79) rfl rfl rfl (fun _ => by kernel_rfl) (As rfl rfl (As rfl rfl (As rfl rfl (WL.nil (Fin.then (Wp.seq ?_)))))))))
  have H95 := H83.pick [0] (by decide) rfl
  refine Wp.region (Mv rfl rfl (Mv rfl rfl (As rfl rfl (As rfl rfl (WL.nil (Fin.then (Wp.ret (Fin.res (res2 rfl rfl rfl) ?_))))))))
  have H96 := H95.pick [0] (by decide) rfl
  have e : buffer_Apply l0 l1 = (r77, r79) := Eq.trans (bnd_of hr27) (Eq.trans (if_pos h31) (Eq.trans (bnd_of hr38) (Eq.trans (if_pos h42) (Eq.trans (bnd_of hL71) (bnd_of hr80)))))
  obtain ⟨rfl, rfl⟩ := pj2 (e.symm.trans hr)
  exact ⟨A84, c85, rfl, H96, (by first | omega | exact Nat.zero_le _)⟩
  refine Wp.cond1 rfl (decide_eq_true h42) (Wp.seq (Wp.region (Mv rfl rfl (As rfl rfl (As rfl rfl (WL.nil (Fin.then (Wp.ret (Fin.thenR (Fin.res (res2 rfl rfl rfl) ?_))))))))))
  have H97 : Own w D w39 [row none 0 0 (List.flatMap PairD.cells ([])) 76 2] := H41.free (row_nil 76 2)
  have H98 := H97.pick [0] (by decide) rfl
  have e : buffer_Apply l0 l1 = ([], r37) := Eq.trans (bnd_of hr27) (Eq.trans (if_pos h31) (Eq.trans (bnd_of hr38) (if_neg h42)))
  obtain ⟨rfl, rfl⟩ := pj2 (e.symm.trans hr)
  exact ⟨none, 0, rfl, H98, (by first | omega | exact Nat.zero_le _)⟩
  refine Wp.cond1 rfl (decide_eq_true h31) (Wp.seq (Wp.region (Mv rfl rfl (As rfl rfl (As rfl rfl (WL.nil (Fin.then (Wp.ret (Fin.thenR (Fin.res (res2 rfl rfl rfl) ?_))))))))))
  have H99 : Own w D w28 [row none 0 0 (List.flatMap PairD.cells ([])) 76 2] := H30.free (row_nil 76 2)
  have H100 := H99.pick [0] (by decide) rfl
  have e : buffer_Apply l0 l1 = ([], r26) := Eq.trans (bnd_of hr27) (if_neg h31)
  obtain ⟨rfl, rfl⟩ := pj2 (e.symm.trans hr)
  exact ⟨none, 0, rfl, H100, (by first | omega | exact Nat.zero_le _)⟩

def r04_SameMap_L0 (l1 : List PairD) : List PairD → Nat → Unit ⊕ Bool
  | [], k22 => Sum.inl ()
  | x31 :: q23, k22 => bnd (List.getD l1 k22 default) fun yx36 => if (x31.xKey = yx36.xKey) ∧ (x31.xValue = yx36.xValue) then r04_SameMap_L0 l1 q23 (k22 + 1) else Sum.inr (false)

def r04_SameMap (l0 : List PairD) (l1 : List PairD) : Bool :=
  if ((l0.length : Nat) : Int) = ((l1.length : Nat) : Int) then lp (r04_SameMap_L0 l1 l0 0) fun _ => true else false

set_option maxRecDepth 100000 in
theorem r04_SameMap_ok (w : World) (D : Nat → Prop) (A0 : Option Addr) (n0 c0 : Nat) (l0 : List PairD) (A1 : Option Addr) (n1 c1 : Nat) (l1 : List PairD) (r0 : Bool) (H : Own w D w []) (hx0 : Ro w D fun w' => Rds w' 2 A0 n0 (List.flatMap PairD.cells l0)) (hn0 : n0 = l0.length) (hl0 : l0.length ≤ 9223372036854775807) (hx1 : Ro w D fun w' => Rds w' 2 A1 n1 (List.flatMap PairD.cells l1)) (hn1 : n1 = l1.length) (hl1 : l1.length ≤ 9223372036854775807) (hr : r04_SameMap l0 l1 = r0) :
    Calls Try.prog 16 #[.slice A0 n0 c0, .slice A1 n1 c1] w (Ret fun v w' => v = .bool r0 ∧ Own w D w' []) := by
  subst hn0 hn1
  refine Calls.body (args := [.slice A0 l0.length c0, .slice A1 l1.length c1]) Try.func16 rfl rfl rfl ?_
  show Wp _ _ _ [(0, .slice A0 l0.length c0), (1, .slice A1 l1.length c1)] _ _
  refine Wp.seq (Wp.region (As rfl rfl (WL.nil (Fin.then (Wp.seq (Wp.seq (Wp.region (Mv rfl rfl (Kn (v := .int .i64 ((l0.length : Nat) : Int)) rfl rfl rfl (fun _ => by kernel_rfl) (Mv rfl rfl (Kn (v := .int .i64 ((l1.length : Nat) : Int)) rfl rfl rfl (fun _ => by kernel_rfl) (WL.val (v := .bool (decide (¬ (((l0.length : Nat) : Int) = ((l1.length : Nat) : Int))))) rfl (Yl.bool (e := !(decide (((l0.length : Nat) : Int) = ((l1.length : Nat) : Int)))) (Yl.kern rfl rfl (fun _ => by kernel_rfl)) decide_not.symm) (WL.nil (Fin.then ?_))))))))))))))
  by_cases h21 : ((l0.length : Nat) : Int) = ((l1.length : Nat) : Int)
  refine Wp.cond0 rfl (decide_eq_false (not_not_intro h21)) (Wp.skip (Fin.then (Wp.seq (Wp.seq (Wp.region (Mv rfl rfl (Kn (v := .int .i64 ((l0.length : Nat) : Int)) rfl rfl rfl (fun _ => by kernel_rfl) (Mv rfl rfl (WL.nil (Fin.then (Wp.block ?_)))))))))))
  have H24 : Own w D w [] := H.pick [] (by decide) rfl
  refine Wp.loop (ι := Nat) (fun i => [(4, .bool false), (13, .int .i64 ((i : Nat) : Int)), (12, .int .i64 ((l0.length : Nat) : Int)), (0, .slice A0 l0.length c0), (1, .slice A1 l1.length c1)]) (fun (i : Nat) w' => Own w D w' [] ∧ (i ≤ l0.length ∧ r04_SameMap_L0 l1 l0 0 = r04_SameMap_L0 l1 (List.drop i l0) i)) (fun i => l0.length - i) 0 ⟨rfl, rfl, rfl, rfl, rfl, trivial⟩ ⟨H24, (show 0 ≤ l0.length ∧ r04_SameMap_L0 l1 l0 0 = r04_SameMap_L0 l1 (List.drop 0 l0) 0 from ⟨by omega, rfl⟩)⟩ ?_
  rintro k22 w25 ⟨H26, hf27⟩
  show Wp _ _ _ [(4, .bool false), (13, .int .i64 ((k22 : Nat) : Int)), (12, .int .i64 ((l0.length : Nat) : Int)), (0, .slice A0 l0.length c0), (1, .slice A1 l1.length c1)] _ _
  replace hf27 : k22 ≤ l0.length ∧ r04_SameMap_L0 l1 l0 0 = r04_SameMap_L0 l1 (List.drop k22 l0) k22 := hf27
  obtain ⟨hi29, hq28⟩ := hf27
  refine Wp.seq (Wp.region (Kn (v := .bool (decide (((k22 : Nat) : Int) < ((l0.length : Nat) : Int)))) rfl rfl rfl (fun _ => by kernel_rfl) (WL.nil (Fin.then (Wp.seq ?_)))))
  by_cases h30 : ((k22 : Nat) : Int) < ((l0.length : Nat) : Int)
  obtain ⟨x31, hx32⟩ := rds_at (ls := l0) (i := k22) PairD.len (by decide) (H26.ro hx0) (by first | omega | (simp; done) | (simp; omega))
  have hd33 := drop_at hx32
  refine Wp.cond1 rfl (decide_eq_true h30) (Wp.skip (Fin.then (Wp.seq (Wp.block (Wp.seq (Wp.region (Mv rfl rfl (As rfl rfl (WL.nil (Fin.then (Wp.seq ?_)))))))))))
  have H35 := H26.drew
  refine Wp.drawnX [] (fun W => ∃ L', Own w D W ([] ++ L')) (by kernel_rfl) (by kernel_rfl) (NoP.then (NoP.block (NoP.then (NoP.then (NoP.block (NoP.then NoP.base)))))) ⟨_, H35⟩ ?_
  revert H35
  generalize World.drew w25 = w34
  intro H35
  refine GX.take (v := .slice A0 l0.length c0) (rs := []) 0 rfl (by kernel_rfl) (fun _ _ => Yl.move rfl) (GX.take (v := .int .i64 ((k22 : Nat) : Int)) (rs := []) 1 rfl (by kernel_rfl) (fun _ _ => Yl.move rfl) (GX.take (v := .pointer (some ⟨ab A0, ao A0 + k22 * 2, none⟩)) (rs := []) 2 rfl (by kernel_rfl) (fun _ ⟨_, H9⟩ => Yl.indexAddr (El29) rfl rfl ((H9.ro hx0).addr (i := k22) (by omega)) (by omega)) (GX.take (v := .agg (PairD.cells x31).toArray) (rs := []) 3 rfl (by kernel_rfl) (fun _ ⟨_, H9⟩ => Yl.load rfl (Lds.agg (cs := (PairD.cells x31)) Try.isAgg76 Try.sizeOf76 ((H9.ro hx0).elem PairD.len hx32 (by decide)))) (GX.take (v := .slice A1 l1.length c1) (rs := []) 4 rfl (by kernel_rfl) (fun _ _ => Yl.move rfl) (GX.take (v := .int .i64 ((k22 : Nat) : Int)) (rs := []) 5 rfl (by kernel_rfl) (fun _ _ => Yl.move rfl) ?_)))))
  obtain ⟨x36, hx37⟩ := at_of (ls := l1) (i := k22) (by first | omega | (simp; done) | (simp; omega))
  refine GX.take (v := .pointer (some ⟨ab A1, ao A1 + k22 * 2, none⟩)) (rs := []) 6 rfl (by kernel_rfl) (fun _ ⟨_, H9⟩ => Yl.indexAddr (El29) rfl rfl ((H9.ro hx1).addr (i := k22) (by omega)) (by omega)) (GX.take (v := .agg (PairD.cells x36).toArray) (rs := []) 7 rfl (by kernel_rfl) (fun _ ⟨_, H9⟩ => Yl.load rfl (Lds.agg (cs := (PairD.cells x36)) Try.isAgg76 Try.sizeOf76 ((H9.ro hx1).elem PairD.len hx37 (by decide)))) (GX.take (v := .bool (decide (¬ ((x31.xKey = x36.xKey) ∧ (x31.xValue = x36.xValue))))) (rs := []) 8 rfl (by kernel_rfl) (fun _ _ => Yl.bool (e := !(decide ((x31.xKey = x36.xKey) ∧ (x31.xValue = x36.xValue)))) (Yl.neAgg rfl rfl (by kernel_rfl) rfl (Eqv.struct Try.underlying76 (by kernel_rfl) (EqF.dec (EqF.cons (u := .string ⟨List.toArray x31.xKey⟩) (v := .string ⟨List.toArray x36.xKey⟩) (by decide) (fun _ => by kernel_rfl) (fun _ => by kernel_rfl) (Eqv.string Try.underlying9) (EqF.cons (u := .string ⟨List.toArray x31.xValue⟩) (v := .string ⟨List.toArray x36.xValue⟩) (by decide) (fun _ => by kernel_rfl) (fun _ => by kernel_rfl) (Eqv.string Try.underlying9) (EqF.nil.up (Nat.zero_le _)))) ((congrArg (decide (x31.xKey = x36.xKey) && ·) and_dec1).trans and_dec)))) decide_not.symm) (GX.done (by kernel_rfl) (Fin.then ?_))))
  by_cases h38 : (x31.xKey = x36.xKey) ∧ (x31.xValue = x36.xValue)
  refine Wp.cond0 rfl (decide_eq_false (not_not_intro h38)) (Wp.skip (Fin.blockN (Fin.then (Wp.region (WL.val (v := .int .i64 ((k22 + 1 : Nat) : Int)) rfl (Yl.int (e := IntKind.i64.wrap (((k22 : Nat) : Int) + 1)) (Yl.kern rfl rfl (fun _ => by kernel_rfl)) (by rw [IntWalk.i64_in _ (by omega)]; omega)) (Mv rfl rfl (WL.nil ?_)))))))
  have H39 := H35.pick [] (by decide) rfl
  exact Fin.round (k22 + 1) ⟨rfl, rfl, rfl, rfl, rfl, trivial⟩ ⟨H39, (show (k22 + 1) ≤ l0.length ∧ r04_SameMap_L0 l1 l0 0 = r04_SameMap_L0 l1 (List.drop (k22 + 1) l0) (k22 + 1) from ⟨by omega, Eq.trans (hq28) (Eq.trans (congrArg (fun q => r04_SameMap_L0 l1 q k22) hd33) (Eq.trans (bnd_of (getD_of hx37)) (if_pos h38)))⟩)⟩ (by show l0.length - (k22 + 1) < l0.length - k22; omega)
  refine Wp.cond1 rfl (decide_eq_true h38) (Wp.seq (Wp.region (As rfl rfl (WL.nil (Fin.then (Wp.ret (Fin.blockR (Fin.thenR (Fin.thenR (Fin.blockR (Fin.thenR (Fin.res (res1 rfl rfl) ?_))))))))))))
  have H40 := H35.pick [] (by decide) rfl
  have e : r04_SameMap l0 l1 = false := Eq.trans (if_pos h21) (lp_r (Eq.trans (hq28) (Eq.trans (congrArg (fun q => r04_SameMap_L0 l1 q k22) hd33) (Eq.trans (bnd_of (getD_of hx37)) (if_neg h38)))))
  obtain rfl := e.symm.trans hr
  exact ⟨rfl, H40⟩
  refine Wp.cond0 rfl (decide_eq_false h30) (Wp.exit (Fin.thenX ?_))
  have hL41 : r04_SameMap_L0 l1 l0 0 = Sum.inl () := Eq.trans (hq28) (Eq.trans (congrArg (fun q => r04_SameMap_L0 l1 q k22) (drop_end (ls := l0) (i := k22) (by omega))) rfl)
  refine Fin.thenX (Fin.blockX (Fin.then (Wp.seq (Wp.region (As rfl rfl (WL.nil (Fin.then (Wp.ret (Fin.res (res1 rfl rfl) ?_)))))))))
  have H42 := H26.pick [] (by decide) rfl
  have e : r04_SameMap l0 l1 = true := Eq.trans (if_pos h21) (lp_l hL41)
  obtain rfl := e.symm.trans hr
  exact ⟨rfl, H42⟩
  refine Wp.cond1 rfl (decide_eq_true h21) (Wp.seq (Wp.region (As rfl rfl (WL.nil (Fin.then (Wp.ret (Fin.thenR (Fin.res (res1 rfl rfl) ?_))))))))
  have H43 : Own w D w [] := H.pick [] (by decide) rfl
  have e : r04_SameMap l0 l1 = false := if_neg h21
  obtain rfl := e.symm.trans hr
  exact ⟨rfl, H43⟩

def r04_Find_L0 (p1 : List UInt8) : List PairD → Unit ⊕ ((List UInt8) × Bool)
  | [] => Sum.inl ()
  | x30 :: q22 => if x30.xKey = p1 then Sum.inr (x30.xValue, true) else r04_Find_L0 p1 q22

def r04_Find (l0 : List PairD) (p1 : List UInt8) : (List UInt8) × Bool :=
  lp (r04_Find_L0 p1 l0) fun _ => ([], false)

set_option maxRecDepth 100000 in
theorem r04_Find_ok (w : World) (D : Nat → Prop) (A0 : Option Addr) (n0 c0 : Nat) (l0 : List PairD) (p1 : List UInt8) (r0 : List UInt8) (r1 : Bool) (H : Own w D w []) (hx0 : Ro w D fun w' => Rds w' 2 A0 n0 (List.flatMap PairD.cells l0)) (hn0 : n0 = l0.length) (hl0 : l0.length * 32 ≤ 211106232532992) (hr : r04_Find l0 p1 = (r0, r1)) :
    Calls Try.prog 19 #[.slice A0 n0 c0, .string ⟨List.toArray p1⟩] w (Ret fun v w' => v = .tuple #[.string ⟨List.toArray r0⟩, .bool r1] ∧ Own w D w' []) := by
  subst hn0
  refine Calls.body (args := [.slice A0 l0.length c0, .string ⟨List.toArray p1⟩]) Try.func19 rfl rfl rfl ?_
  show Wp _ _ _ [(0, .slice A0 l0.length c0), (1, .string ⟨List.toArray p1⟩)] _ _
  refine Wp.seq (Wp.region (As rfl rfl (As rfl rfl (WL.nil (Fin.then (Wp.seq (Wp.seq (Wp.region (Mv rfl rfl (Kn (v := .int .i64 ((l0.length : Nat) : Int)) rfl rfl rfl (fun _ => by kernel_rfl) (Mv rfl rfl (WL.nil (Fin.then (Wp.block ?_))))))))))))))
  have H23 : Own w D w [] := H.pick [] (by decide) rfl
  refine Wp.loop (ι := Nat) (fun i => [(4, .string ⟨List.toArray ([])⟩), (5, .bool false), (10, .int .i64 ((i : Nat) : Int)), (9, .int .i64 ((l0.length : Nat) : Int)), (8, .slice A0 l0.length c0), (1, .string ⟨List.toArray p1⟩)]) (fun (i : Nat) w' => Own w D w' [] ∧ (i ≤ l0.length ∧ r04_Find_L0 p1 l0 = r04_Find_L0 p1 (List.drop i l0))) (fun i => l0.length - i) 0 ⟨rfl, rfl, rfl, rfl, rfl, rfl, trivial⟩ ⟨H23, (show 0 ≤ l0.length ∧ r04_Find_L0 p1 l0 = r04_Find_L0 p1 (List.drop 0 l0) from ⟨by omega, rfl⟩)⟩ ?_
  rintro k21 w24 ⟨H25, hf26⟩
  show Wp _ _ _ [(4, .string ⟨List.toArray ([])⟩), (5, .bool false), (10, .int .i64 ((k21 : Nat) : Int)), (9, .int .i64 ((l0.length : Nat) : Int)), (8, .slice A0 l0.length c0), (1, .string ⟨List.toArray p1⟩)] _ _
  replace hf26 : k21 ≤ l0.length ∧ r04_Find_L0 p1 l0 = r04_Find_L0 p1 (List.drop k21 l0) := hf26
  obtain ⟨hi28, hq27⟩ := hf26
  refine Wp.seq (Wp.region (Kn (v := .bool (decide (((k21 : Nat) : Int) < ((l0.length : Nat) : Int)))) rfl rfl rfl (fun _ => by kernel_rfl) (WL.nil (Fin.then (Wp.seq ?_)))))
  by_cases h29 : ((k21 : Nat) : Int) < ((l0.length : Nat) : Int)
  obtain ⟨x30, hx31⟩ := rds_at (ls := l0) (i := k21) PairD.len (by decide) (H25.ro hx0) (by first | omega | (simp; done) | (simp; omega))
  have hd32 := drop_at hx31
  refine Wp.cond1 rfl (decide_eq_true h29) (Wp.skip (Fin.then (Wp.seq (Wp.block (Wp.seq (Wp.region (WL.val (v := .pointer (some ⟨ab A0, ao A0 + k21 * 2, none⟩)) rfl (Yl.indexAddr (El29) rfl rfl ((H25.ro hx0).addr (i := k21) (by omega)) (by omega)) (WL.val (v := .agg (PairD.cells x30).toArray) rfl (Yl.load rfl (Lds.agg (cs := (PairD.cells x30)) Try.isAgg76 Try.sizeOf76 ((H25.ro hx0).elem PairD.len hx31 (by decide)))) ?_))))))))
  refine WL.do rfl (Do.newP (cs := [.string ⟨List.toArray ([])⟩, .string ⟨List.toArray ([])⟩]) (t := 76) H25 rfl rfl (fun _ => by kernel_rfl) ?_)
  intro g33 w34 H35
  refine WL.do0 (Do.store (vs := (PairD.cells x30)) (o := 0) H35 rfl rfl Try.sizeOf76 rfl rfl rfl rfl ?_)
  intro w36 H37
  refine WL.nil (Fin.then (Wp.seq (Wp.region (Kn (v := .pointer (some ⟨g33, 0, none⟩)) rfl rfl rfl (fun _ => by kernel_rfl) (WL.val (v := .string ⟨List.toArray x30.xKey⟩) rfl (Yl.load rfl (Lds.one Try.isAgg9 (Cls.of (H37.cls (i := 0) rfl) rfl))) (Mv rfl rfl (WL.val (v := .bool (decide (x30.xKey = p1))) rfl (Yl.strEq rfl rfl) (WL.nil (Fin.then ?_)))))))))
  by_cases h38 : x30.xKey = p1
  refine Wp.cond1 rfl (decide_eq_true h38) (Wp.seq (Wp.region (Kn (v := .pointer (some ⟨g33, 1, none⟩)) rfl rfl rfl (fun _ => by kernel_rfl) (WL.val (v := .string ⟨List.toArray x30.xValue⟩) rfl (Yl.load rfl (Lds.one Try.isAgg9 (Cls.of (H37.cls (i := 0) rfl) rfl))) (As rfl rfl (As rfl rfl (WL.nil (Fin.then (Wp.ret (Fin.blockR (Fin.thenR (Fin.thenR (Fin.blockR (Fin.thenR (Fin.res (res2 rfl rfl rfl) ?_)))))))))))))))
  have H39 := H37.pick [] (by decide) rfl
  have e : r04_Find l0 p1 = (x30.xValue, true) := lp_r (Eq.trans (hq27) (Eq.trans (congrArg (fun q => r04_Find_L0 p1 q) hd32) (if_pos h38)))
  obtain ⟨rfl, rfl⟩ := pj2 (e.symm.trans hr)
  exact ⟨rfl, H39⟩
  refine Wp.cond0 rfl (decide_eq_false h38) (Wp.skip (Fin.blockN (Fin.then (Wp.region (WL.val (v := .int .i64 ((k21 + 1 : Nat) : Int)) rfl (Yl.int (e := IntKind.i64.wrap (((k21 : Nat) : Int) + 1)) (Yl.kern rfl rfl (fun _ => by kernel_rfl)) (by rw [IntWalk.i64_in _ (by omega)]; omega)) (Mv rfl rfl (WL.nil ?_)))))))
  have H40 := H37.pick [] (by decide) rfl
  exact Fin.round (k21 + 1) ⟨rfl, rfl, rfl, rfl, rfl, rfl, trivial⟩ ⟨H40, (show (k21 + 1) ≤ l0.length ∧ r04_Find_L0 p1 l0 = r04_Find_L0 p1 (List.drop (k21 + 1) l0) from ⟨by omega, Eq.trans (hq27) (Eq.trans (congrArg (fun q => r04_Find_L0 p1 q) hd32) (if_neg h38))⟩)⟩ (by show l0.length - (k21 + 1) < l0.length - k21; omega)
  refine Wp.cond0 rfl (decide_eq_false h29) (Wp.exit (Fin.thenX ?_))
  have hL41 : r04_Find_L0 p1 l0 = Sum.inl () := Eq.trans (hq27) (Eq.trans (congrArg (fun q => r04_Find_L0 p1 q) (drop_end (ls := l0) (i := k21) (by omega))) rfl)
  refine Fin.thenX (Fin.blockX (Fin.then (Wp.seq (Wp.region (As rfl rfl (As rfl rfl (WL.nil (Fin.then (Wp.ret (Fin.res (res2 rfl rfl rfl) ?_))))))))))
  have H42 := H25.pick [] (by decide) rfl
  have e : r04_Find l0 p1 = ([], false) := lp_l hL41
  obtain ⟨rfl, rfl⟩ := pj2 (e.symm.trans hr)
  exact ⟨rfl, H42⟩

def r04_Within_L0 (p1 : RangeD) (p2 : Int) : List PairD → List PairD → (List PairD)
  | [], l27 => l27
  | x38 :: q29, l27 => bnd (r02_Has p1 x38.xKey) fun yr51 => if yr51 = true then if p2 < 0 then r04_Within_L0 p1 p2 q29 (l27 ++ [x38]) else if ((l27.length : Nat) : Int) < p2 then r04_Within_L0 p1 p2 q29 (l27 ++ [x38]) else r04_Within_L0 p1 p2 q29 l27 else r04_Within_L0 p1 p2 q29 l27

def r04_Within (l0 : List PairD) (p1 : RangeD) (p2 : Int) : (List PairD) :=
  bnd (r04_Within_L0 p1 p2 l0 ([])) fun sLrL => sLrL

set_option maxRecDepth 100000 in
theorem r04_Within_ok (w : World) (D : Nat → Prop) (A0 : Option Addr) (n0 c0 : Nat) (l0 : List PairD) (p1 : RangeD) (p2 : Int) (r0 : List PairD) (H : Own w D w []) (hx0 : Ro w D fun w' => Rds w' 2 A0 n0 (List.flatMap PairD.cells l0)) (hn0 : n0 = l0.length) (hl0 : l0.length * 32 ≤ 211106232532992) (hr : r04_Within l0 p1 p2 = r0) :
    Calls Try.prog 14 #[.slice A0 n0 c0, .agg (RangeD.cells p1).toArray, .int .i64 p2] w (Ret fun v w' => ∃ (B0 : Option Addr) (b0 : Nat), v = .slice B0 r0.length b0 ∧ Own w D w' [row B0 r0.length b0 (List.flatMap PairD.cells r0) 76 2] ∧ (r0.length ≤ l0.length)) := by
  subst hn0
  refine Calls.body (args := [.slice A0 l0.length c0, .agg (RangeD.cells p1).toArray, .int .i64 p2]) Try.func14 rfl rfl rfl ?_
  show Wp _ _ _ [(0, .slice A0 l0.length c0), (1, .agg (RangeD.cells p1).toArray), (2, .int .i64 p2)] _ _
  refine Wp.seq (Wp.region ?_)
  refine WL.do rfl (Do.newP (cs := (RangeD.cells p1)) (t := 38) H rfl rfl (fun _ => by kernel_rfl) ?_)
  intro g21 w22 H23
  refine As rfl rfl (WL.nil (Fin.then (Wp.seq (Wp.region (As rfl rfl (WL.nil (Fin.then (Wp.seq (Wp.seq (Wp.region (Mv rfl rfl (Kn (v := .int .i64 ((l0.length : Nat) : Int)) rfl rfl rfl (fun _ => by kernel_rfl) (Mv rfl rfl (WL.nil (Fin.then (Wp.block ?_))))))))))))))))
  have H24 : Own w D w22 [row none 0 0 (List.flatMap PairD.cells ([])) 76 2, blk g21 (RangeD.cells p1) 38] := H23.free (row_nil 76 2)
  have H30 := H24.pick [1, 0] (by decide) rfl
  refine Wp.loop (ι := (Option Addr) × Nat × (List PairD) × Nat) (fun i => [(7, .slice i.1 i.2.2.1.length i.2.1), (12, .int .i64 ((i.2.2.2 : Nat) : Int)), (11, .int .i64 ((l0.length : Nat) : Int)), (10, .slice A0 l0.length c0), (6, .slice none 0 0), (4, .pointer (some ⟨g21, 0, none⟩)), (2, .int .i64 p2)]) (fun (i : (Option Addr) × Nat × (List PairD) × Nat) w' => Own w D w' [blk g21 (RangeD.cells p1) 38, row i.1 i.2.2.1.length i.2.1 (List.flatMap PairD.cells i.2.2.1) 76 2] ∧ (i.2.2.2 ≤ l0.length ∧ i.2.2.1.length ≤ i.2.2.2 ∧ r04_Within_L0 p1 p2 l0 ([]) = r04_Within_L0 p1 p2 (List.drop i.2.2.2 l0) i.2.2.1)) (fun i => l0.length - i.2.2.2) (none, 0, [], 0) ⟨rfl, rfl, rfl, rfl, rfl, rfl, rfl, trivial⟩ ⟨H30, (show 0 ≤ l0.length ∧ 0 ≤ 0 ∧ r04_Within_L0 p1 p2 l0 ([]) = r04_Within_L0 p1 p2 (List.drop 0 l0) ([]) from ⟨by omega, by omega, rfl⟩)⟩ ?_
  rintro ⟨A25, c26, l27, k28⟩ w31 ⟨H32, hf33⟩
  show Wp _ _ _ [(7, .slice A25 l27.length c26), (12, .int .i64 ((k28 : Nat) : Int)), (11, .int .i64 ((l0.length : Nat) : Int)), (10, .slice A0 l0.length c0), (6, .slice none 0 0), (4, .pointer (some ⟨g21, 0, none⟩)), (2, .int .i64 p2)] _ _
  replace H32 : Own w D w31 [blk g21 (RangeD.cells p1) 38, row A25 l27.length c26 (List.flatMap PairD.cells l27) 76 2] := H32
  replace hf33 : k28 ≤ l0.length ∧ l27.length ≤ k28 ∧ r04_Within_L0 p1 p2 l0 ([]) = r04_Within_L0 p1 p2 (List.drop k28 l0) l27 := hf33
  obtain ⟨hi35, hi36, hq34⟩ := hf33
  refine Wp.seq (Wp.region (Kn (v := .bool (decide (((k28 : Nat) : Int) < ((l0.length : Nat) : Int)))) rfl rfl rfl (fun _ => by kernel_rfl) (WL.nil (Fin.then (Wp.seq ?_)))))
  by_cases h37 : ((k28 : Nat) : Int) < ((l0.length : Nat) : Int)
  obtain ⟨x38, hx39⟩ := rds_at (ls := l0) (i := k28) PairD.len (by decide) (H32.ro hx0) (by first | omega | (simp; done) | (simp; omega))
  have hd40 := drop_at hx39
  refine Wp.cond1 rfl (decide_eq_true h37) (Wp.skip (Fin.then (Wp.seq (Wp.block (Wp.seq (Wp.region (WL.val (v := .pointer (some ⟨ab A0, ao A0 + k28 * 2, none⟩)) rfl (Yl.indexAddr (El29) rfl rfl ((H32.ro hx0).addr (i := k28) (by omega)) (by omega)) (WL.val (v := .agg (PairD.cells x38).toArray) rfl (Yl.load rfl (Lds.agg (cs := (PairD.cells x38)) Try.isAgg76 Try.sizeOf76 ((H32.ro hx0).elem PairD.len hx39 (by decide)))) ?_))))))))
  refine WL.do rfl (Do.newP (cs := [.string ⟨List.toArray ([])⟩, .string ⟨List.toArray ([])⟩]) (t := 76) H32 rfl rfl (fun _ => by kernel_rfl) ?_)
  intro g41 w42 H43
  refine WL.do0 (Do.store (vs := (PairD.cells x38)) (o := 0) H43 rfl rfl Try.sizeOf76 rfl rfl rfl rfl ?_)
  intro w44 H45
  refine WL.nil (Fin.then (Wp.seq (Wp.region (WL.val (v := .agg (RangeD.cells p1).toArray) rfl (Yl.load rfl (Lds.agg (cs := (RangeD.cells p1)) Try.isAgg38 Try.sizeOf38 ((H45.cls (i := 1) rfl).lit (k := 0) (m := 2) rfl))) (Kn (v := .pointer (some ⟨g41, 0, none⟩)) rfl rfl rfl (fun _ => by kernel_rfl) (WL.val (v := .string ⟨List.toArray x38.xKey⟩) rfl (Yl.load rfl (Lds.one Try.isAgg9 (Cls.of (H45.cls (i := 0) rfl) rfl))) ?_))))))
  obtain ⟨r51, hr52⟩ : ∃ q, r02_Has p1 x38.xKey = q := ⟨_, rfl⟩
  obtain ⟨D46, HP47, ro48, bk49, rr50⟩ := Own.enter0 H45
  refine WL.do rfl (Do.call Try.call38 rfl (r02_Has_ok _ _ p1 x38.xKey r51 HP47 hr52) ?_)
  rintro _ w53 ⟨rfl, HQ54⟩
  have H55 := bk49 _ _ HQ54
  refine Mv rfl rfl ?_
  rcases Bool.eq_false_or_eq_true (r51) with h56 | h56
  refine WL.valG (v := .int .i64 p2) rfl rfl h56 rfl (Yl.move rfl) (WL.valG (v := .bool (decide (p2 < 0))) rfl rfl h56 rfl (Yl.kern rfl rfl (fun _ => by kernel_rfl)) (WL.valG (v := .bool (decide (p2 < 0))) rfl rfl h56 rfl (Yl.move rfl) ?_))
  by_cases h57 : p2 < 0
  refine Sk rfl rfl (decide_eq_true h57) rfl (Sk rfl rfl (decide_eq_true h57) rfl (Sk rfl rfl (decide_eq_true h57) rfl (Sk rfl rfl (decide_eq_true h57) rfl (WL.valG (v := .bool true) rfl rfl h56 rfl (Yl.pickT rfl (decide_eq_true h57) rfl) (WL.val (v := .bool true) rfl (Yl.pickT rfl h56 rfl) (WL.nil (Fin.then (Wp.cond1 rfl rfl (Wp.region (Mv rfl rfl (WL.val (v := .agg (PairD.cells x38).toArray) rfl (Yl.load rfl (Lds.agg (cs := (PairD.cells x38)) Try.isAgg76 Try.sizeOf76 ((H55.cls (i := 0) rfl).lit (k := 0) (m := 2) rfl))) ?_)))))))))))
  refine WL.do rfl (Do.newRow (cs := (PairD.cells x38)) (t := 76) (sz := 2) (m := 1) H55 rfl rfl (fun _ => by kernel_rfl) rfl (by decide) ?_)
  intro A58 w59 H60
  replace H60 : Own w D w59 [row A58 1 1 (List.flatMap PairD.cells ([x38])) 76 2, blk g41 (PairD.cells x38) 76, blk g21 (RangeD.cells p1) 38, row A25 l27.length c26 (List.flatMap PairD.cells l27) 76 2] := H60
  have H61 := H60.pick [3, 0, 1, 2] (by decide) rfl
  refine WL.do rfl (Do.appendW (k := l27.length) (m := 1) (El29) H61 rfl rfl (src_of Try.underlying29 (H61.rds (i := 1) rfl) (flat_one PairD.one ([x38]))) rfl (by omega) (s := List.length (l27 ++ [x38])) (by first | omega | (simp only [List.length_append, List.length_cons, List.length_nil] <;> omega)) (List.flatMap_append).symm ?_)
  intro A62 c63 w64 H65
  have hl66 : List.length (l27 ++ [x38]) = l27.length + 1 := by simp only [List.length_append, List.length_cons, List.length_nil]
  refine As rfl rfl (WL.nil (Fin.blockN (Fin.then (Wp.region (WL.val (v := .int .i64 ((k28 + 1 : Nat) : Int)) rfl (Yl.int (e := IntKind.i64.wrap (((k28 : Nat) : Int) + 1)) (Yl.kern rfl rfl (fun _ => by kernel_rfl)) (by rw [IntWalk.i64_in _ (by omega)]; omega)) (Mv rfl rfl (WL.nil ?_)))))))
  have H67 := H65.pick [3, 0] (by decide) rfl
  exact Fin.round (A62, c63, (l27 ++ [x38]), k28 + 1) ⟨rfl, rfl, rfl, rfl, rfl, rfl, rfl, trivial⟩ ⟨H67, (show (k28 + 1) ≤ l0.length ∧ List.length (l27 ++ [x38]) ≤ (k28 + 1) ∧ r04_Within_L0 p1 p2 l0 ([]) = r04_Within_L0 p1 p2 (List.drop (k28 + 1) l0) (l27 ++ [x38]) from ⟨by omega, by omega, Eq.trans (hq34) (Eq.trans (congrArg (fun q => r04_Within_L0 p1 p2 q l27) hd40) (Eq.trans (bnd_of hr52) (Eq.trans (if_pos h56) (if_pos h57))))⟩)⟩ (by show l0.length - (k28 + 1) < l0.length - k28; omega)
  refine WL.valG (v := .slice A25 l27.length c26) rfl rfl (decide_eq_false h57) rfl (Yl.move rfl) (WL.valG (v := .int .i64 ((l27.length : Nat) : Int)) rfl rfl (decide_eq_false h57) rfl (Yl.kern rfl rfl (fun _ => by kernel_rfl)) (WL.valG (v := .int .i64 p2) rfl rfl (decide_eq_false h57) rfl (Yl.move rfl) (WL.valG (v := .bool (decide (((l27.length : Nat) : Int) < p2))) rfl rfl (decide_eq_false h57) rfl (Yl.kern rfl rfl (fun _ => by kernel_rfl)) (WL.valG (v := .bool (decide (((l27.length : Nat) : Int) < p2))) rfl rfl h56 rfl (Yl.pickF rfl (decide_eq_false h57) rfl) (WL.val (v := .bool (decide (((l27.length : Nat) : Int) < p2))) rfl (Yl.pickT rfl h56 rfl) (WL.nil (Fin.then ?_)))))))
  by_cases h68 : ((l27.length : Nat) : Int) < p2
  refine Wp.cond1 rfl (decide_eq_true h68) (Wp.region (Mv rfl rfl (WL.val (v := .agg (PairD.cells x38).toArray) rfl (Yl.load rfl (Lds.agg (cs := (PairD.cells x38)) Try.isAgg76 Try.sizeOf76 ((H55.cls (i := 0) rfl).lit (k := 0) (m := 2) rfl))) ?_)))
  refine WL.do rfl (Do.newRow (cs := (PairD.cells x38)) (t := 76) (sz := 2) (m := 1) H55 rfl rfl (fun _ => by kernel_rfl) rfl (by decide) ?_)
  intro A69 w70 H71
  replace H71 : Own w D w70 [row A69 1 1 (List.flatMap PairD.cells ([x38])) 76 2, blk g41 (PairD.cells x38) 76, blk g21 (RangeD.cells p1) 38, row A25 l27.length c26 (List.flatMap PairD.cells l27) 76 2] := H71
  have H72 := H71.pick [3, 0, 1, 2] (by decide) rfl
  refine WL.do rfl (Do.appendW (k := l27.length) (m := 1) (El29) H72 rfl rfl (src_of Try.underlying29 (H72.rds (i := 1) rfl) (flat_one PairD.one ([x38]))) rfl (by omega) (s := List.length (l27 ++ [x38])) (by first | omega | (simp only [List.length_append, List.length_cons, List.length_nil] <;> omega)) (List.flatMap_append).symm ?_)
  intro A73 c74 w75 H76
  have hl77 : List.length (l27 ++ [x38]) = l27.length + 1 := by simp only [List.length_append, List.length_cons, List.length_nil]
  refine As rfl rfl (WL.nil (Fin.blockN (Fin.then (Wp.region (WL.val (v := .int .i64 ((k28 + 1 : Nat) : Int)) rfl (Yl.int (e := IntKind.i64.wrap (((k28 : Nat) : Int) + 1)) (Yl.kern rfl rfl (fun _ => by kernel_rfl)) (by rw [IntWalk.i64_in _ (by omega)]; omega)) (Mv rfl rfl (WL.nil ?_)))))))
  have H78 := H76.pick [3, 0] (by decide) rfl
  exact Fin.round (A73, c74, (l27 ++ [x38]), k28 + 1) ⟨rfl, rfl, rfl, rfl, rfl, rfl, rfl, trivial⟩ ⟨H78, (show (k28 + 1) ≤ l0.length ∧ List.length (l27 ++ [x38]) ≤ (k28 + 1) ∧ r04_Within_L0 p1 p2 l0 ([]) = r04_Within_L0 p1 p2 (List.drop (k28 + 1) l0) (l27 ++ [x38]) from ⟨by omega, by omega, Eq.trans (hq34) (Eq.trans (congrArg (fun q => r04_Within_L0 p1 p2 q l27) hd40) (Eq.trans (bnd_of hr52) (Eq.trans (if_pos h56) (Eq.trans (if_neg h57) (if_pos h68)))))⟩)⟩ (by show l0.length - (k28 + 1) < l0.length - k28; omega)
  refine Wp.cond0 rfl (decide_eq_false h68) (Wp.skip (Fin.blockN (Fin.then (Wp.region (WL.val (v := .int .i64 ((k28 + 1 : Nat) : Int)) rfl (Yl.int (e := IntKind.i64.wrap (((k28 : Nat) : Int) + 1)) (Yl.kern rfl rfl (fun _ => by kernel_rfl)) (by rw [IntWalk.i64_in _ (by omega)]; omega)) (Mv rfl rfl (WL.nil ?_)))))))
  have H79 := H55.pick [1, 2] (by decide) rfl
  exact Fin.round (A25, c26, l27, k28 + 1) ⟨rfl, rfl, rfl, rfl, rfl, rfl, rfl, trivial⟩ ⟨H79, (show (k28 + 1) ≤ l0.length ∧ l27.length ≤ (k28 + 1) ∧ r04_Within_L0 p1 p2 l0 ([]) = r04_Within_L0 p1 p2 (List.drop (k28 + 1) l0) l27 from ⟨by omega, by omega, Eq.trans (hq34) (Eq.trans (congrArg (fun q => r04_Within_L0 p1 p2 q l27) hd40) (Eq.trans (bnd_of hr52) (Eq.trans (if_pos h56) (Eq.trans (if_neg h57) (if_neg h68)))))⟩)⟩ (by show l0.length - (k28 + 1) < l0.length - k28; omega)
  refine Sk rfl rfl h56 rfl (Sk rfl rfl h56 rfl (Sk rfl rfl h56 rfl (WL.skipU rfl rfl rfl (WL.skipU rfl rfl rfl (WL.skipU rfl rfl rfl (WL.skipU rfl rfl rfl (Sk rfl rfl h56 rfl (WL.val (v := .bool false) rfl (Yl.pickF rfl h56 rfl) (WL.nil (Fin.then (Wp.cond0 rfl rfl (Wp.skip (Fin.blockN (Fin.then (Wp.region (WL.val (v := .int .i64 ((k28 + 1 : Nat) : Int)) rfl (Yl.int (e := IntKind.i64.wrap (((k28 : Nat) : Int) + 1)) (Yl.kern rfl rfl (fun _ => by kernel_rfl)) (by rw [IntWalk.i64_in _ (by omega)]; omega)) (Mv rfl rfl (WL.nil ?_))))))))))))))))))
  have H80 := H55.pick [1, 2] (by decide) rfl
  exact Fin.round (A25, c26, l27, k28 + 1) ⟨rfl, rfl, rfl, rfl, rfl, rfl, rfl, trivial⟩ ⟨H80, (show (k28 + 1) ≤ l0.length ∧ l27.length ≤ (k28 + 1) ∧ r04_Within_L0 p1 p2 l0 ([]) = r04_Within_L0 p1 p2 (List.drop (k28 + 1) l0) l27 from ⟨by omega, by omega, Eq.trans (hq34) (Eq.trans (congrArg (fun q => r04_Within_L0 p1 p2 q l27) hd40) (Eq.trans (bnd_of hr52) (ifF h56)))⟩)⟩ (by show l0.length - (k28 + 1) < l0.length - k28; omega)
  refine Wp.cond0 rfl (decide_eq_false h37) (Wp.exit (Fin.thenX ?_))
  have hL81 : r04_Within_L0 p1 p2 l0 ([]) = l27 := Eq.trans (hq34) (Eq.trans (congrArg (fun q => r04_Within_L0 p1 p2 q l27) (drop_end (ls := l0) (i := k28) (by omega))) rfl)
  refine Fin.thenX (Fin.blockX (Fin.then (Wp.seq ?_)))
  have H82 := H32.pick [1] (by decide) rfl
  refine Wp.region (Mv rfl rfl (As rfl rfl (WL.nil (Fin.then (Wp.ret (Fin.res (res1 rfl rfl) ?_))))))
  have H83 := H82.pick [0] (by decide) rfl
  have e : r04_Within l0 p1 p2 = l27 := bnd_of hL81
  obtain rfl := e.symm.trans hr
  exact ⟨A25, c26, rfl, H83, (by omega)⟩

def r12_Same_L0 (l1 : List EntryD) : List EntryD → Nat → Unit ⊕ Bool
  | [], k22 => Sum.inl ()
  | x31 :: q23, k22 => bnd (List.getD l1 k22 default) fun yx36 => if (((x31.xSeq : Nat) : Int) = ((yx36.xSeq : Nat) : Int)) ∧ ((x31.xOp.xKind = yx36.xOp.xKind) ∧ (x31.xOp.xKey = yx36.xOp.xKey) ∧ (x31.xOp.xValue = yx36.xOp.xValue) ∧ (x31.xOp.xLo = yx36.xOp.xLo) ∧ (x31.xOp.xHi = yx36.xOp.xHi) ∧ (x31.xOp.xMost = yx36.xOp.xMost)) then r12_Same_L0 l1 q23 (k22 + 1) else Sum.inr (false)

def r12_Same (l0 : List EntryD) (l1 : List EntryD) : Bool :=
  if ((l0.length : Nat) : Int) = ((l1.length : Nat) : Int) then lp (r12_Same_L0 l1 l0 0) fun _ => true else false

set_option maxRecDepth 100000 in
theorem r12_Same_ok (w : World) (D : Nat → Prop) (A0 : Option Addr) (n0 c0 : Nat) (l0 : List EntryD) (A1 : Option Addr) (n1 c1 : Nat) (l1 : List EntryD) (r0 : Bool) (H : Own w D w []) (hx0 : Ro w D fun w' => Rds w' 7 A0 n0 (List.flatMap EntryD.cells l0)) (hn0 : n0 = l0.length) (hl0 : l0.length ≤ 9223372036854775807) (hx1 : Ro w D fun w' => Rds w' 7 A1 n1 (List.flatMap EntryD.cells l1)) (hn1 : n1 = l1.length) (hl1 : l1.length ≤ 9223372036854775807) (hr : r12_Same l0 l1 = r0) :
    Calls Try.prog 21 #[.slice A0 n0 c0, .slice A1 n1 c1] w (Ret fun v w' => v = .bool r0 ∧ Own w D w' []) := by
  subst hn0 hn1
  refine Calls.body (args := [.slice A0 l0.length c0, .slice A1 l1.length c1]) Try.func21 rfl rfl rfl ?_
  show Wp _ _ _ [(0, .slice A0 l0.length c0), (1, .slice A1 l1.length c1)] _ _
  refine Wp.seq (Wp.region (As rfl rfl (WL.nil (Fin.then (Wp.seq (Wp.seq (Wp.region (Mv rfl rfl (Kn (v := .int .i64 ((l0.length : Nat) : Int)) rfl rfl rfl (fun _ => by kernel_rfl) (Mv rfl rfl (Kn (v := .int .i64 ((l1.length : Nat) : Int)) rfl rfl rfl (fun _ => by kernel_rfl) (WL.val (v := .bool (decide (¬ (((l0.length : Nat) : Int) = ((l1.length : Nat) : Int))))) rfl (Yl.bool (e := !(decide (((l0.length : Nat) : Int) = ((l1.length : Nat) : Int)))) (Yl.kern rfl rfl (fun _ => by kernel_rfl)) decide_not.symm) (WL.nil (Fin.then ?_))))))))))))))
  by_cases h21 : ((l0.length : Nat) : Int) = ((l1.length : Nat) : Int)
  refine Wp.cond0 rfl (decide_eq_false (not_not_intro h21)) (Wp.skip (Fin.then (Wp.seq (Wp.seq (Wp.region (Mv rfl rfl (Kn (v := .int .i64 ((l0.length : Nat) : Int)) rfl rfl rfl (fun _ => by kernel_rfl) (Mv rfl rfl (WL.nil (Fin.then (Wp.block ?_)))))))))))
  have H24 : Own w D w [] := H.pick [] (by decide) rfl
  refine Wp.loop (ι := Nat) (fun i => [(4, .bool false), (13, .int .i64 ((i : Nat) : Int)), (12, .int .i64 ((l0.length : Nat) : Int)), (0, .slice A0 l0.length c0), (1, .slice A1 l1.length c1)]) (fun (i : Nat) w' => Own w D w' [] ∧ (i ≤ l0.length ∧ r12_Same_L0 l1 l0 0 = r12_Same_L0 l1 (List.drop i l0) i)) (fun i => l0.length - i) 0 ⟨rfl, rfl, rfl, rfl, rfl, trivial⟩ ⟨H24, (show 0 ≤ l0.length ∧ r12_Same_L0 l1 l0 0 = r12_Same_L0 l1 (List.drop 0 l0) 0 from ⟨by omega, rfl⟩)⟩ ?_
  rintro k22 w25 ⟨H26, hf27⟩
  show Wp _ _ _ [(4, .bool false), (13, .int .i64 ((k22 : Nat) : Int)), (12, .int .i64 ((l0.length : Nat) : Int)), (0, .slice A0 l0.length c0), (1, .slice A1 l1.length c1)] _ _
  replace hf27 : k22 ≤ l0.length ∧ r12_Same_L0 l1 l0 0 = r12_Same_L0 l1 (List.drop k22 l0) k22 := hf27
  obtain ⟨hi29, hq28⟩ := hf27
  refine Wp.seq (Wp.region (Kn (v := .bool (decide (((k22 : Nat) : Int) < ((l0.length : Nat) : Int)))) rfl rfl rfl (fun _ => by kernel_rfl) (WL.nil (Fin.then (Wp.seq ?_)))))
  by_cases h30 : ((k22 : Nat) : Int) < ((l0.length : Nat) : Int)
  obtain ⟨x31, hx32⟩ := rds_at (ls := l0) (i := k22) EntryD.len (by decide) (H26.ro hx0) (by first | omega | (simp; done) | (simp; omega))
  have hd33 := drop_at hx32
  refine Wp.cond1 rfl (decide_eq_true h30) (Wp.skip (Fin.then (Wp.seq (Wp.block (Wp.seq (Wp.region (Mv rfl rfl (As rfl rfl (WL.nil (Fin.then (Wp.seq ?_)))))))))))
  have H35 := H26.drew
  refine Wp.drawnX [] (fun W => ∃ L', Own w D W ([] ++ L')) (by kernel_rfl) (by kernel_rfl) (NoP.then (NoP.block (NoP.then (NoP.then (NoP.block (NoP.then NoP.base)))))) ⟨_, H35⟩ ?_
  revert H35
  generalize World.drew w25 = w34
  intro H35
  refine GX.take (v := .slice A0 l0.length c0) (rs := []) 0 rfl (by kernel_rfl) (fun _ _ => Yl.move rfl) (GX.take (v := .int .i64 ((k22 : Nat) : Int)) (rs := []) 1 rfl (by kernel_rfl) (fun _ _ => Yl.move rfl) (GX.take (v := .pointer (some ⟨ab A0, ao A0 + k22 * 7, none⟩)) (rs := []) 2 rfl (by kernel_rfl) (fun _ ⟨_, H9⟩ => Yl.indexAddr (El22) rfl rfl ((H9.ro hx0).addr (i := k22) (by omega)) (by omega)) (GX.take (v := .agg (EntryD.cells x31).toArray) (rs := []) 3 rfl (by kernel_rfl) (fun _ ⟨_, H9⟩ => Yl.load rfl (Lds.agg (cs := (EntryD.cells x31)) Try.isAgg52 Try.sizeOf52 ((H9.ro hx0).elem EntryD.len hx32 (by decide)))) (GX.take (v := .slice A1 l1.length c1) (rs := []) 4 rfl (by kernel_rfl) (fun _ _ => Yl.move rfl) (GX.take (v := .int .i64 ((k22 : Nat) : Int)) (rs := []) 5 rfl (by kernel_rfl) (fun _ _ => Yl.move rfl) ?_)))))
  obtain ⟨x36, hx37⟩ := at_of (ls := l1) (i := k22) (by first | omega | (simp; done) | (simp; omega))
  refine GX.take (v := .pointer (some ⟨ab A1, ao A1 + k22 * 7, none⟩)) (rs := []) 6 rfl (by kernel_rfl) (fun _ ⟨_, H9⟩ => Yl.indexAddr (El22) rfl rfl ((H9.ro hx1).addr (i := k22) (by omega)) (by omega)) (GX.take (v := .agg (EntryD.cells x36).toArray) (rs := []) 7 rfl (by kernel_rfl) (fun _ ⟨_, H9⟩ => Yl.load rfl (Lds.agg (cs := (EntryD.cells x36)) Try.isAgg52 Try.sizeOf52 ((H9.ro hx1).elem EntryD.len hx37 (by decide)))) (GX.take (v := .bool (decide (¬ ((((x31.xSeq : Nat) : Int) = ((x36.xSeq : Nat) : Int)) ∧ ((x31.xOp.xKind = x36.xOp.xKind) ∧ (x31.xOp.xKey = x36.xOp.xKey) ∧ (x31.xOp.xValue = x36.xOp.xValue) ∧ (x31.xOp.xLo = x36.xOp.xLo) ∧ (x31.xOp.xHi = x36.xOp.xHi) ∧ (x31.xOp.xMost = x36.xOp.xMost)))))) (rs := []) 8 rfl (by kernel_rfl) (fun _ _ => Yl.bool (e := !(decide ((((x31.xSeq : Nat) : Int) = ((x36.xSeq : Nat) : Int)) ∧ ((x31.xOp.xKind = x36.xOp.xKind) ∧ (x31.xOp.xKey = x36.xOp.xKey) ∧ (x31.xOp.xValue = x36.xOp.xValue) ∧ (x31.xOp.xLo = x36.xOp.xLo) ∧ (x31.xOp.xHi = x36.xOp.xHi) ∧ (x31.xOp.xMost = x36.xOp.xMost))))) (Yl.neAgg rfl rfl (by kernel_rfl) rfl (Eqv.struct Try.underlying52 (by kernel_rfl) (EqF.dec (EqF.cons (u := .int .u64 ((x31.xSeq : Nat) : Int)) (v := .int .u64 ((x36.xSeq : Nat) : Int)) (by decide) (fun _ => by kernel_rfl) (fun _ => by kernel_rfl) ((Eqv.int Try.underlying48).up (by decide)) (EqF.cons (u := .agg (OpD.cells x31.xOp).toArray) (v := .agg (OpD.cells x36.xOp).toArray) (by decide) (fun _ => by kernel_rfl) (fun _ => by kernel_rfl) (Eqv.struct Try.underlying50 (by kernel_rfl) (EqF.dec (EqF.cons (u := .int .i64 x31.xOp.xKind) (v := .int .i64 x36.xOp.xKind) (by decide) (fun _ => by kernel_rfl) (fun _ => by kernel_rfl) (Eqv.int Try.underlying3) (EqF.cons (u := .string ⟨List.toArray x31.xOp.xKey⟩) (v := .string ⟨List.toArray x36.xOp.xKey⟩) (by decide) (fun _ => by kernel_rfl) (fun _ => by kernel_rfl) (Eqv.string Try.underlying9) (EqF.cons (u := .string ⟨List.toArray x31.xOp.xValue⟩) (v := .string ⟨List.toArray x36.xOp.xValue⟩) (by decide) (fun _ => by kernel_rfl) (fun _ => by kernel_rfl) (Eqv.string Try.underlying9) (EqF.cons (u := .string ⟨List.toArray x31.xOp.xLo⟩) (v := .string ⟨List.toArray x36.xOp.xLo⟩) (by decide) (fun _ => by kernel_rfl) (fun _ => by kernel_rfl) (Eqv.string Try.underlying9) (EqF.cons (u := .string ⟨List.toArray x31.xOp.xHi⟩) (v := .string ⟨List.toArray x36.xOp.xHi⟩) (by decide) (fun _ => by kernel_rfl) (fun _ => by kernel_rfl) (Eqv.string Try.underlying9) (EqF.cons (u := .int .i64 x31.xOp.xMost) (v := .int .i64 x36.xOp.xMost) (by decide) (fun _ => by kernel_rfl) (fun _ => by kernel_rfl) (Eqv.int Try.underlying3) (EqF.nil.up (Nat.zero_le _)))))))) ((congrArg (decide (x31.xOp.xKind = x36.xOp.xKind) && ·) ((congrArg (decide (x31.xOp.xKey = x36.xOp.xKey) && ·) ((congrArg (decide (x31.xOp.xValue = x36.xOp.xValue) && ·) ((congrArg (decide (x31.xOp.xLo = x36.xOp.xLo) && ·) ((congrArg (decide (x31.xOp.xHi = x36.xOp.xHi) && ·) and_dec1).trans and_dec)).trans and_dec)).trans and_dec)).trans and_dec)).trans and_dec))) (EqF.nil.up (Nat.zero_le _)))) ((congrArg (decide (((x31.xSeq : Nat) : Int) = ((x36.xSeq : Nat) : Int)) && ·) and_dec1).trans and_dec)))) decide_not.symm) (GX.done (by kernel_rfl) (Fin.then ?_))))
  by_cases h38 : (((x31.xSeq : Nat) : Int) = ((x36.xSeq : Nat) : Int)) ∧ ((x31.xOp.xKind = x36.xOp.xKind) ∧ (x31.xOp.xKey = x36.xOp.xKey) ∧ (x31.xOp.xValue = x36.xOp.xValue) ∧ (x31.xOp.xLo = x36.xOp.xLo) ∧ (x31.xOp.xHi = x36.xOp.xHi) ∧ (x31.xOp.xMost = x36.xOp.xMost))
  refine Wp.cond0 rfl (decide_eq_false (not_not_intro h38)) (Wp.skip (Fin.blockN (Fin.then (Wp.region (WL.val (v := .int .i64 ((k22 + 1 : Nat) : Int)) rfl (Yl.int (e := IntKind.i64.wrap (((k22 : Nat) : Int) + 1)) (Yl.kern rfl rfl (fun _ => by kernel_rfl)) (by rw [IntWalk.i64_in _ (by omega)]; omega)) (Mv rfl rfl (WL.nil ?_)))))))
  have H39 := H35.pick [] (by decide) rfl
  exact Fin.round (k22 + 1) ⟨rfl, rfl, rfl, rfl, rfl, trivial⟩ ⟨H39, (show (k22 + 1) ≤ l0.length ∧ r12_Same_L0 l1 l0 0 = r12_Same_L0 l1 (List.drop (k22 + 1) l0) (k22 + 1) from ⟨by omega, Eq.trans (hq28) (Eq.trans (congrArg (fun q => r12_Same_L0 l1 q k22) hd33) (Eq.trans (bnd_of (getD_of hx37)) (if_pos h38)))⟩)⟩ (by show l0.length - (k22 + 1) < l0.length - k22; omega)
  refine Wp.cond1 rfl (decide_eq_true h38) (Wp.seq (Wp.region (As rfl rfl (WL.nil (Fin.then (Wp.ret (Fin.blockR (Fin.thenR (Fin.thenR (Fin.blockR (Fin.thenR (Fin.res (res1 rfl rfl) ?_))))))))))))
  have H40 := H35.pick [] (by decide) rfl
  have e : r12_Same l0 l1 = false := Eq.trans (if_pos h21) (lp_r (Eq.trans (hq28) (Eq.trans (congrArg (fun q => r12_Same_L0 l1 q k22) hd33) (Eq.trans (bnd_of (getD_of hx37)) (if_neg h38)))))
  obtain rfl := e.symm.trans hr
  exact ⟨rfl, H40⟩
  refine Wp.cond0 rfl (decide_eq_false h30) (Wp.exit (Fin.thenX ?_))
  have hL41 : r12_Same_L0 l1 l0 0 = Sum.inl () := Eq.trans (hq28) (Eq.trans (congrArg (fun q => r12_Same_L0 l1 q k22) (drop_end (ls := l0) (i := k22) (by omega))) rfl)
  refine Fin.thenX (Fin.blockX (Fin.then (Wp.seq (Wp.region (As rfl rfl (WL.nil (Fin.then (Wp.ret (Fin.res (res1 rfl rfl) ?_)))))))))
  have H42 := H26.pick [] (by decide) rfl
  have e : r12_Same l0 l1 = true := Eq.trans (if_pos h21) (lp_l hL41)
  obtain rfl := e.symm.trans hr
  exact ⟨rfl, H42⟩
  refine Wp.cond1 rfl (decide_eq_true h21) (Wp.seq (Wp.region (As rfl rfl (WL.nil (Fin.then (Wp.ret (Fin.thenR (Fin.res (res1 rfl rfl) ?_))))))))
  have H43 : Own w D w [] := H.pick [] (by decide) rfl
  have e : r12_Same l0 l1 = false := if_neg h21
  obtain rfl := e.symm.trans hr
  exact ⟨rfl, H43⟩

def r12_Range (l0 : List (List UInt8)) (p1 : Int) : RangeD :=
  bnd (if p1 > 0 then bnd (List.getD l0 (Int.toNat (p1 - 1)) default) fun yx31 => yx31 else []) fun sJrJ => if p1 < ((l0.length : Nat) : Int) then bnd (List.getD l0 (Int.toNat p1) default) fun yx42 => RangeD.mk sJrJ yx42 else RangeD.mk sJrJ ([])

set_option maxRecDepth 100000 in
theorem r12_Range_ok (w : World) (D : Nat → Prop) (A0 : Option Addr) (n0 c0 : Nat) (l0 : List (List UInt8)) (p1 : Int) (r0 : RangeD) (H : Own w D w []) (hx0 : Ro w D fun w' => Rds w' 1 A0 n0 (List.flatMap eS l0)) (hn0 : n0 = l0.length) (hl0 : l0.length * 16 ≤ 211106232532992) (hh0 : 0 ≤ p1 ∧ p1 ≤ ((l0.length : Nat) : Int)) (hr : r12_Range l0 p1 = r0) :
    Calls Try.prog 15 #[.slice A0 n0 c0, .int .i64 p1] w (Ret fun v w' => v = .agg (RangeD.cells r0).toArray ∧ Own w D w' []) := by
  subst hn0
  refine Calls.body (args := [.slice A0 l0.length c0, .int .i64 p1]) Try.func15 rfl rfl rfl ?_
  show Wp _ _ _ [(0, .slice A0 l0.length c0), (1, .int .i64 p1)] _ _
  refine Wp.seq (Wp.region ?_)
  refine WL.do rfl (Do.newP (cs := [.string ⟨List.toArray ([])⟩, .string ⟨List.toArray ([])⟩]) (t := 38) H rfl rfl (fun _ => by kernel_rfl) ?_)
  intro g21 w22 H23
  refine WL.nil (Fin.then (Wp.seq (Wp.region (Kn (v := .agg #[.string ⟨List.toArray ([])⟩, .string ⟨List.toArray ([])⟩]) rfl rfl rfl (fun _ => by kernel_rfl) ?_))))
  refine WL.do rfl (Do.newP (cs := [.string ⟨List.toArray ([])⟩, .string ⟨List.toArray ([])⟩]) (t := 38) H23 rfl rfl (fun _ => by kernel_rfl) ?_)
  intro g24 w25 H26
  refine WL.do0 (Do.store (vs := [.string ⟨List.toArray ([])⟩, .string ⟨List.toArray ([])⟩]) (o := 0) H26 rfl rfl Try.sizeOf38 rfl rfl rfl rfl ?_)
  intro w27 H28
  refine WL.nil (Fin.then (Wp.seq (Wp.seq (Wp.region (Mv rfl rfl (Kn (v := .bool (decide (p1 > 0))) rfl rfl rfl (fun _ => by kernel_rfl) (WL.nil (Fin.then ?_))))))))
  refine Wp.joinT (ι := (List UInt8)) (fun i => [(5, .pointer (some ⟨g24, 0, none⟩)), (4, .pointer (some ⟨g21, 0, none⟩)), (0, .slice A0 l0.length c0), (1, .int .i64 p1)]) (fun (i : (List UInt8)) w' => Own w D w' [blk g24 [.string ⟨List.toArray i⟩, .string ⟨List.toArray ([])⟩] 38, blk g21 [.string ⟨List.toArray ([])⟩, .string ⟨List.toArray ([])⟩] 38] ∧ ((if p1 > 0 then bnd (List.getD l0 (Int.toNat (p1 - 1)) default) fun yx31 => yx31 else []) = i)) ?_ ?_
  by_cases h30 : p1 > 0
  refine Wp.cond1 rfl (decide_eq_true h30) (Wp.region (Mv rfl rfl (Mv rfl rfl (WL.val (v := .int .i64 ((Int.toNat (p1 - 1) : Nat) : Int)) rfl (Yl.int (e := IntKind.i64.wrap (p1 - 1)) (Yl.kern rfl rfl (fun _ => by kernel_rfl)) (by rw [IntWalk.i64_in _ (by omega)]; omega)) ?_))))
  obtain ⟨x31, hx32⟩ := rds_at (ls := l0) (i := Int.toNat (p1 - 1)) eS_len (by decide) (H28.ro hx0) (by first | omega | (simp; done) | (simp; omega))
  refine WL.val (v := .pointer (some ⟨ab A0, ao A0 + (Int.toNat (p1 - 1)) * 1, none⟩)) rfl (Yl.indexAddr (El30) rfl rfl ((H28.ro hx0).addr (i := Int.toNat (p1 - 1)) (by omega)) (by omega)) (WL.val (v := .string ⟨List.toArray x31⟩) rfl (Yl.load rfl (Lds.one Try.isAgg9 (((H28.ro hx0).elem eS_len hx32 (by decide)).at_ (k := 0) rfl))) (Kn (v := .pointer (some ⟨g24, 0, none⟩)) rfl rfl rfl (fun _ => by kernel_rfl) ?_))
  refine WL.do0 (Do.store (vs := [.string ⟨List.toArray x31⟩]) (o := 0) H28 rfl rfl Try.sizeOf9 rfl rfl rfl rfl ?_)
  intro w33 H34
  refine WL.nil ?_
  have H35 := H34.pick [0, 1] (by decide) rfl
  exact Fin.join x31 ⟨rfl, rfl, rfl, rfl, trivial⟩ ⟨H35, (show (if p1 > 0 then bnd (List.getD l0 (Int.toNat (p1 - 1)) default) fun yx31 => yx31 else []) = x31 from Eq.trans (if_pos h30) (bnd_of (getD_of hx32)))⟩
  refine Wp.cond0 rfl (decide_eq_false h30) (Wp.skip ?_)
  have H36 := H28.pick [0, 1] (by decide) rfl
  exact Fin.join ([]) ⟨rfl, rfl, rfl, rfl, trivial⟩ ⟨H36, (show (if p1 > 0 then bnd (List.getD l0 (Int.toNat (p1 - 1)) default) fun yx31 => yx31 else []) = ([]) from if_neg h30)⟩
  rintro s29 w37 ⟨H38, hf39⟩
  show Wp _ _ _ [(5, .pointer (some ⟨g24, 0, none⟩)), (4, .pointer (some ⟨g21, 0, none⟩)), (0, .slice A0 l0.length c0), (1, .int .i64 p1)] _ _
  replace hf39 : (if p1 > 0 then bnd (List.getD l0 (Int.toNat (p1 - 1)) default) fun yx31 => yx31 else []) = s29 := hf39
  have hj40 := hf39
  refine Wp.seq (Wp.seq (Wp.region (Mv rfl rfl (Mv rfl rfl (Kn (v := .int .i64 ((l0.length : Nat) : Int)) rfl rfl rfl (fun _ => by kernel_rfl) (Kn (v := .bool (decide (p1 < ((l0.length : Nat) : Int)))) rfl rfl rfl (fun _ => by kernel_rfl) (WL.nil (Fin.then ?_))))))))
  by_cases h41 : p1 < ((l0.length : Nat) : Int)
  refine Wp.cond1 rfl (decide_eq_true h41) (Wp.region (Mv rfl rfl (WL.val (v := .int .i64 ((Int.toNat p1 : Nat) : Int)) rfl (Yl.int (e := p1) (Yl.move rfl) (by omega)) ?_)))
  obtain ⟨x42, hx43⟩ := rds_at (ls := l0) (i := Int.toNat p1) eS_len (by decide) (H38.ro hx0) (by first | omega | (simp; done) | (simp; omega))
  refine WL.val (v := .pointer (some ⟨ab A0, ao A0 + (Int.toNat p1) * 1, none⟩)) rfl (Yl.indexAddr (El30) rfl rfl ((H38.ro hx0).addr (i := Int.toNat p1) (by omega)) (by omega)) (WL.val (v := .string ⟨List.toArray x42⟩) rfl (Yl.load rfl (Lds.one Try.isAgg9 (((H38.ro hx0).elem eS_len hx43 (by decide)).at_ (k := 0) rfl))) (Kn (v := .pointer (some ⟨g24, 1, none⟩)) rfl rfl rfl (fun _ => by kernel_rfl) ?_))
  refine WL.do0 (Do.store (vs := [.string ⟨List.toArray x42⟩]) (o := 1) H38 rfl rfl Try.sizeOf9 rfl rfl rfl rfl ?_)
  intro w44 H45
  refine WL.nil (Fin.then (Wp.seq (Wp.region (WL.val (v := .agg #[.string ⟨List.toArray s29⟩, .string ⟨List.toArray x42⟩]) rfl (Yl.load rfl (Lds.agg (cs := [.string ⟨List.toArray s29⟩, .string ⟨List.toArray x42⟩]) Try.isAgg38 Try.sizeOf38 ((H45.cls (i := 0) rfl).lit (k := 0) (m := 2) rfl))) ?_))))
  have H46 := H45.pick [1, 0] (by decide) rfl
  refine WL.do0 (Do.store (vs := [.string ⟨List.toArray s29⟩, .string ⟨List.toArray x42⟩]) (o := 0) H46 rfl rfl Try.sizeOf38 rfl rfl rfl rfl ?_)
  intro w47 H48
  refine WL.nil (Fin.then (Wp.ret (Fin.res (resC rfl rfl (Lds.agg (cs := [.string ⟨List.toArray s29⟩, .string ⟨List.toArray x42⟩]) Try.isAgg38 Try.sizeOf38 ((H48.cls (i := 0) rfl).lit (k := 0) (m := 2) rfl))) ?_)))
  have H49 := H48.pick [] (by decide) rfl
  have e : r12_Range l0 p1 = RangeD.mk s29 x42 := Eq.trans (bnd_of hj40) (Eq.trans (if_pos h41) (bnd_of (getD_of hx43)))
  obtain rfl := e.symm.trans hr
  exact ⟨rfl, H49⟩
  refine Wp.cond0 rfl (decide_eq_false h41) (Wp.skip (Fin.then (Wp.seq (Wp.region (WL.val (v := .agg #[.string ⟨List.toArray s29⟩, .string ⟨List.toArray ([])⟩]) rfl (Yl.load rfl (Lds.agg (cs := [.string ⟨List.toArray s29⟩, .string ⟨List.toArray ([])⟩]) Try.isAgg38 Try.sizeOf38 ((H38.cls (i := 0) rfl).lit (k := 0) (m := 2) rfl))) ?_)))))
  have H50 := H38.pick [1, 0] (by decide) rfl
  refine WL.do0 (Do.store (vs := [.string ⟨List.toArray s29⟩, .string ⟨List.toArray ([])⟩]) (o := 0) H50 rfl rfl Try.sizeOf38 rfl rfl rfl rfl ?_)
  intro w51 H52
  refine WL.nil (Fin.then (Wp.ret (Fin.res (resC rfl rfl (Lds.agg (cs := [.string ⟨List.toArray s29⟩, .string ⟨List.toArray ([])⟩]) Try.isAgg38 Try.sizeOf38 ((H52.cls (i := 0) rfl).lit (k := 0) (m := 2) rfl))) ?_)))
  have H53 := H52.pick [] (by decide) rfl
  have e : r12_Range l0 p1 = RangeD.mk s29 ([]) := Eq.trans (bnd_of hj40) (if_neg h41)
  obtain rfl := e.symm.trans hr
  exact ⟨rfl, H53⟩
end Go.Proofs.Ytblpdbnklopchaa
