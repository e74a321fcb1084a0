/-
  buffer: two merged.
-/
import Derived.Test.YtblpdbnklopchaaBp
namespace Go.Proofs.Ytblpdbnklopchaa
open Go.RowKit
set_option linter.unusedVariables false
set_option linter.unusedSectionVars false
set_option linter.unusedSimpArgs false

def buffer_Merge_L0 : Nat → List EntryD → List EntryD → List EntryD → ((List EntryD) × (List EntryD) × (List EntryD)) ⊕ ((List EntryD) × Int)
  | 0, l55, l58, l61 => Sum.inl default
  | q62 + 1, l55, l58, l61 => if ((l55.length : Nat) : Int) > 0 then if ((l58.length : Nat) : Int) > 0 then bnd (List.getD l55 0 default) fun yx81 => bnd (List.getD l58 0 default) fun yx83 => if ((yx81.xSeq : Nat) : Int) = ((yx83.xSeq : Nat) : Int) then Sum.inr ([], 1) else if ((yx81.xSeq : Nat) : Int) < ((yx83.xSeq : Nat) : Int) then buffer_Merge_L0 q62 (List.drop 1 l55) l58 (l61 ++ [yx81]) else buffer_Merge_L0 q62 l55 (List.drop 1 l58) (l61 ++ [yx83]) else Sum.inl (l55, l58, l61) else Sum.inl (l55, l58, l61)

def buffer_Merge (l0 : List EntryD) (l1 : List EntryD) : (List EntryD) × Int :=
  bnd (buffer_Check l0) fun yr26 => if yr26 = 0 then bnd (buffer_Check l1) fun yr37 => if yr37 = 0 then lp (lpS (buffer_Merge_L0 ((l0.length + l1.length) + 1) l0 l1 ([])) fun sLrbtbtJjL => Sum.inl (sLrbtbtJjL.1, sLrbtbtJjL.2.1, sLrbtbtJjL.2.2)) fun sJrbtbtJ => (((sJrbtbtJ.2.2 ++ sJrbtbtJ.1) ++ sJrbtbtJ.2.1), 0) else ([], yr37) else ([], yr26)

set_option maxRecDepth 100000 in
theorem buffer_Merge_ok (w : World) (D : Nat → Prop) (A0 : Option Addr) (n0 c0 : Nat) (l0 : List EntryD) (A1 : Option Addr) (n1 c1 : Nat) (l1 : List EntryD) (r0 : List EntryD) (r1 : Int) (H : Own w D w []) (hx0 : Ro w D fun w' => Rds w' 7 A0 n0 (List.flatMap EntryD.cells l0)) (hn0 : n0 = l0.length) (hl0 : l0.length * 88 ≤ 211106232532992) (hq0 : l0.length ≤ c0) (hx1 : Ro w D fun w' => Rds w' 7 A1 n1 (List.flatMap EntryD.cells l1)) (hn1 : n1 = l1.length) (hl1 : l1.length * 88 ≤ 211106232532992) (hq1 : l1.length ≤ c1) (hh0 : (l0.length + l1.length) * 88 ≤ 211106232532992) (hr : buffer_Merge l0 l1 = (r0, r1)) :
    Calls Try.prog 20 #[.slice A0 n0 c0, .slice A1 n1 c1] w (Ret fun v w' => ∃ (B0 : Option Addr) (b0 : Nat), v = .tuple #[.slice B0 r0.length b0, .int .i64 r1] ∧ Own w D w' [row B0 r0.length b0 (List.flatMap EntryD.cells r0) 52 7] ∧ (r0.length ≤ l0.length + l1.length)) := by
  subst hn0 hn1
  refine Calls.body (args := [.slice A0 l0.length c0, .slice A1 l1.length c1]) Try.func20 rfl rfl rfl ?_
  show Wp _ _ _ [(0, .slice A0 l0.length c0), (1, .slice A1 l1.length c1)] _ _
  refine Wp.seq (Wp.region (As rfl rfl (As rfl rfl (WL.nil (Fin.then (Wp.seq (Wp.seq (Wp.region (Mv rfl rfl ?_)))))))))
  obtain ⟨r26, hr27⟩ : ∃ q, buffer_Check l0 = q := ⟨_, rfl⟩
  obtain ⟨D21, HP22, ro23, bk24, rr25⟩ := Own.enter0 H
  refine WL.do rfl (Do.call Try.call10 rfl (buffer_Check_ok _ _ A0 l0.length c0 l0 r26 HP22 (ro23 _ hx0) rfl (by omega) hr27) ?_)
  rintro _ w28 ⟨rfl, HQ29⟩
  have H30 := bk24 _ _ HQ29
  refine As rfl rfl (WL.nil (Fin.then (Wp.seq (Wp.region (Mv rfl rfl (WL.val (v := .bool (decide (¬ (r26 = 0)))) rfl (Yl.bool (e := !(decide (r26 = 0))) (Yl.kern rfl rfl (fun _ => by kernel_rfl)) decide_not.symm) (WL.nil (Fin.then ?_))))))))
  by_cases h31 : r26 = 0
  refine Wp.cond0 rfl (decide_eq_false (not_not_intro h31)) (Wp.skip (Fin.then (Wp.seq (Wp.seq (Wp.region (Mv rfl rfl ?_))))))
  obtain ⟨r37, hr38⟩ : ∃ q, buffer_Check l1 = q := ⟨_, rfl⟩
  obtain ⟨D32, HP33, ro34, bk35, rr36⟩ := Own.enter0 H30
  refine WL.do rfl (Do.call Try.call10 rfl (buffer_Check_ok _ _ A1 l1.length c1 l1 r37 HP33 (ro34 _ hx1) rfl (by omega) hr38) ?_)
  rintro _ w39 ⟨rfl, HQ40⟩
  have H41 := bk35 _ _ HQ40
  refine As rfl rfl (WL.nil (Fin.then (Wp.seq (Wp.region (Mv rfl rfl (WL.val (v := .bool (decide (¬ (r37 = 0)))) rfl (Yl.bool (e := !(decide (r37 = 0))) (Yl.kern rfl rfl (fun _ => by kernel_rfl)) decide_not.symm) (WL.nil (Fin.then ?_))))))))
  by_cases h42 : r37 = 0
  refine Wp.cond0 rfl (decide_eq_false (not_not_intro h42)) (Wp.skip (Fin.then (Wp.seq (Wp.region (As rfl rfl (WL.nil (Fin.then (Wp.seq ?_))))))))
  refine Wp.joinT (ι := (Option Addr) × Nat × (List EntryD) × (Option Addr) × Nat × (List EntryD) × (Option Addr) × Nat × (List EntryD)) (fun i => [(0, .slice i.1 i.2.2.1.length i.2.1), (1, .slice i.2.2.2.1 i.2.2.2.2.2.1.length i.2.2.2.2.1), (4, .slice none 0 0), (5, .int .i64 0), (8, .slice i.2.2.2.2.2.2.1 i.2.2.2.2.2.2.2.2.length i.2.2.2.2.2.2.2.1)]) (fun (i : (Option Addr) × Nat × (List EntryD) × (Option Addr) × Nat × (List EntryD) × (Option Addr) × Nat × (List EntryD)) w' => Own w D w' [row i.2.2.2.2.2.2.1 i.2.2.2.2.2.2.2.2.length i.2.2.2.2.2.2.2.1 (List.flatMap EntryD.cells i.2.2.2.2.2.2.2.2) 52 7] ∧ (SubS 7 A0 c0 l0 i.1 i.2.1 i.2.2.1 ∧ SubS 7 A1 c1 l1 i.2.2.2.1 i.2.2.2.2.1 i.2.2.2.2.2.1 ∧ i.2.2.1.length ≤ l0.length ∧ i.2.2.1.length ≤ l0.length + 1 ∧ i.2.2.2.2.2.1.length ≤ l1.length ∧ i.2.2.2.2.2.1.length ≤ l1.length + 1 ∧ 0 ≤ i.2.2.2.2.2.2.2.2.length ∧ i.2.2.2.2.2.2.2.2.length + (i.2.2.1.length + i.2.2.2.2.2.1.length) ≤ l0.length + l1.length ∧ (lpS (buffer_Merge_L0 ((l0.length + l1.length) + 1) l0 l1 ([])) fun sLrbtbtJjL => Sum.inl (sLrbtbtJjL.1, sLrbtbtJjL.2.1, sLrbtbtJjL.2.2)) = Sum.inl (i.2.2.1, i.2.2.2.2.2.1, i.2.2.2.2.2.2.2.2))) ?_ ?_
  refine Wp.block ?_
  have H52 : Own w D w39 [row none 0 0 (List.flatMap EntryD.cells ([])) 52 7] := H41.free (row_nil 52 7)
  have H64 := H52.pick [0] (by decide) rfl
  refine Wp.loop (ι := (Option Addr) × Nat × (List EntryD) × (Option Addr) × Nat × (List EntryD) × (Option Addr) × Nat × (List EntryD) × Nat) (fun i => [(0, .slice i.1 i.2.2.1.length i.2.1), (1, .slice i.2.2.2.1 i.2.2.2.2.2.1.length i.2.2.2.2.1), (4, .slice none 0 0), (5, .int .i64 0), (8, .slice i.2.2.2.2.2.2.1 i.2.2.2.2.2.2.2.2.1.length i.2.2.2.2.2.2.2.1)]) (fun (i : (Option Addr) × Nat × (List EntryD) × (Option Addr) × Nat × (List EntryD) × (Option Addr) × Nat × (List EntryD) × Nat) w' => Own w D w' [row i.2.2.2.2.2.2.1 i.2.2.2.2.2.2.2.2.1.length i.2.2.2.2.2.2.2.1 (List.flatMap EntryD.cells i.2.2.2.2.2.2.2.2.1) 52 7] ∧ (SubS 7 A0 c0 l0 i.1 i.2.1 i.2.2.1 ∧ SubS 7 A1 c1 l1 i.2.2.2.1 i.2.2.2.2.1 i.2.2.2.2.2.1 ∧ i.2.2.2.2.2.2.2.2.1.length + (i.2.2.1.length + i.2.2.2.2.2.1.length) ≤ l0.length + l1.length ∧ i.2.2.1.length + i.2.2.2.2.2.1.length < i.2.2.2.2.2.2.2.2.2 ∧ buffer_Merge_L0 ((l0.length + l1.length) + 1) l0 l1 ([]) = buffer_Merge_L0 i.2.2.2.2.2.2.2.2.2 i.2.2.1 i.2.2.2.2.2.1 i.2.2.2.2.2.2.2.2.1)) (fun i => i.2.2.2.2.2.2.2.2.2) (A0, c0, l0, A1, c1, l1, none, 0, [], (l0.length + l1.length) + 1) ⟨rfl, rfl, rfl, rfl, rfl, trivial⟩ ⟨H64, (show SubS 7 A0 c0 l0 A0 c0 l0 ∧ SubS 7 A1 c1 l1 A1 c1 l1 ∧ 0 + (l0.length + l1.length) ≤ l0.length + l1.length ∧ l0.length + l1.length < ((l0.length + l1.length) + 1) ∧ buffer_Merge_L0 ((l0.length + l1.length) + 1) l0 l1 ([]) = buffer_Merge_L0 ((l0.length + l1.length) + 1) l0 l1 ([]) from ⟨by exact (SubS.refl (by omega)), by exact (SubS.refl (by omega)), by first | omega | (simp only [List.length_append, List.length_drop, List.length_cons, List.length_nil] <;> omega), by omega, rfl⟩)⟩ ?_
  rintro ⟨A53, c54, l55, A56, c57, l58, A59, c60, l61, f63⟩ w65 ⟨H66, hf67⟩
  show Wp _ _ _ [(0, .slice A53 l55.length c54), (1, .slice A56 l58.length c57), (4, .slice none 0 0), (5, .int .i64 0), (8, .slice A59 l61.length c60)] _ _
  replace H66 : Own w D w65 [row A59 l61.length c60 (List.flatMap EntryD.cells l61) 52 7] := H66
  replace hf67 : SubS 7 A0 c0 l0 A53 c54 l55 ∧ SubS 7 A1 c1 l1 A56 c57 l58 ∧ l61.length + (l55.length + l58.length) ≤ l0.length + l1.length ∧ l55.length + l58.length < f63 ∧ buffer_Merge_L0 ((l0.length + l1.length) + 1) l0 l1 ([]) = buffer_Merge_L0 f63 l55 l58 l61 := hf67
  obtain ⟨hi69, hi70, hi71, hi72, hq68⟩ := hf67
  have hz73 := (hi69).le
  have hz74 := (hi70).le
  obtain ⟨f75, hf76⟩ : ∃ q, f63 = q + 1 := ⟨f63 - 1, by omega⟩
  subst hf76
  refine Wp.seq (Wp.seq (Wp.region (Mv rfl rfl (Kn (v := .int .i64 ((l55.length : Nat) : Int)) rfl rfl rfl (fun _ => by kernel_rfl) (Kn (v := .bool (decide (((l55.length : Nat) : Int) > 0))) rfl rfl rfl (fun _ => by kernel_rfl) (Mv rfl rfl ?_))))))
  by_cases h77 : ((l55.length : Nat) : Int) > 0
  refine WL.valG (v := .slice A56 l58.length c57) rfl rfl (decide_eq_true h77) rfl (Yl.move rfl) (WL.valG (v := .int .i64 ((l58.length : Nat) : Int)) rfl rfl (decide_eq_true h77) rfl (Yl.kern rfl rfl (fun _ => by kernel_rfl)) (WL.valG (v := .bool (decide (((l58.length : Nat) : Int) > 0))) rfl rfl (decide_eq_true h77) rfl (Yl.kern rfl rfl (fun _ => by kernel_rfl)) (WL.val (v := .bool (decide (((l58.length : Nat) : Int) > 0))) rfl (Yl.pickT rfl (decide_eq_true h77) rfl) (WL.nil (Fin.then ?_)))))
  by_cases h78 : ((l58.length : Nat) : Int) > 0
  refine Wp.cond1 rfl (decide_eq_true h78) (Wp.skip (Fin.then (Wp.block (Wp.seq (Wp.seq ?_)))))
  have H80 := H66.drew
  refine Wp.drawnX [] (fun W => ∃ L', Own w D W ([row A59 l61.length c60 (List.flatMap EntryD.cells l61) 52 7] ++ L')) (by kernel_rfl) (by kernel_rfl) (NoP.then (NoP.then (NoP.block (NoP.then (NoP.block (NoP.then NoP.base)))))) ⟨_, H80⟩ ?_
  revert H80
  generalize World.drew w65 = w79
  intro H80
  refine GX.take (v := .slice A53 l55.length c54) (rs := []) 0 rfl (by kernel_rfl) (fun _ _ => Yl.move rfl) ?_
  obtain ⟨x81, hx82⟩ := at_of (ls := l55) (i := 0) (by first | omega | (simp; done) | (simp; omega))
  refine GX.take (v := .pointer (some ⟨ab A53, ao A53 + 0 * 7, none⟩)) (rs := []) 1 rfl (by kernel_rfl) (fun _ ⟨_, H9⟩ => Yl.indexAddr (El22) rfl rfl ((SubS.rds EntryD.len (by decide) hi69 (H9.ro hx0)).addr (i := 0) (by omega)) (by omega)) (GX.take (v := .pointer (some ⟨ab A53, ao A53 + 0 * 7, none⟩)) (rs := []) 2 rfl (by kernel_rfl) (fun _ _ => Yl.kern rfl rfl (fun _ => by kernel_rfl)) (GX.take (v := .int .u64 ((x81.xSeq : Nat) : Int)) (rs := []) 3 rfl (by kernel_rfl) (fun _ ⟨_, H9⟩ => Yl.load rfl (Lds.one Try.isAgg48 (((SubS.rds EntryD.len (by decide) hi69 (H9.ro hx0)).elem EntryD.len hx82 (by decide)).at_ (k := 0) rfl))) (GX.take (v := .slice A56 l58.length c57) (rs := []) 4 rfl (by kernel_rfl) (fun _ _ => Yl.move rfl) ?_)))
  obtain ⟨x83, hx84⟩ := at_of (ls := l58) (i := 0) (by first | omega | (simp; done) | (simp; omega))
  refine GX.take (v := .pointer (some ⟨ab A56, ao A56 + 0 * 7, none⟩)) (rs := []) 5 rfl (by kernel_rfl) (fun _ ⟨_, H9⟩ => Yl.indexAddr (El22) rfl rfl ((SubS.rds EntryD.len (by decide) hi70 (H9.ro hx1)).addr (i := 0) (by omega)) (by omega)) (GX.take (v := .pointer (some ⟨ab A56, ao A56 + 0 * 7, none⟩)) (rs := []) 6 rfl (by kernel_rfl) (fun _ _ => Yl.kern rfl rfl (fun _ => by kernel_rfl)) (GX.take (v := .int .u64 ((x83.xSeq : Nat) : Int)) (rs := []) 7 rfl (by kernel_rfl) (fun _ ⟨_, H9⟩ => Yl.load rfl (Lds.one Try.isAgg48 (((SubS.rds EntryD.len (by decide) hi70 (H9.ro hx1)).elem EntryD.len hx84 (by decide)).at_ (k := 0) rfl))) (GX.take (v := .bool (decide (((x81.xSeq : Nat) : Int) = ((x83.xSeq : Nat) : Int)))) (rs := []) 8 rfl (by kernel_rfl) (fun _ _ => Yl.kern rfl rfl (fun _ => by kernel_rfl)) (GX.done (by kernel_rfl) (Fin.then ?_)))))
  by_cases h85 : ((x81.xSeq : Nat) : Int) = ((x83.xSeq : Nat) : Int)
  refine Wp.cond1 rfl (decide_eq_true h85) (Wp.seq (Wp.region (As rfl rfl (As rfl rfl (WL.nil (Fin.then (Wp.ret (Fin.thenR (Fin.blockR (Fin.thenR (Fin.blockR (Fin.thenR (Fin.res (res2 rfl rfl rfl) ?_)))))))))))))
  have H86 : Own w D w79 [row none 0 0 (List.flatMap EntryD.cells ([])) 52 7, row A59 l61.length c60 (List.flatMap EntryD.cells l61) 52 7] := H80.free (row_nil 52 7)
  have H87 := H86.pick [0] (by decide) rfl
  have e : buffer_Merge l0 l1 = ([], 1) := Eq.trans (bnd_of hr27) (Eq.trans (if_pos h31) (Eq.trans (bnd_of hr38) (Eq.trans (if_pos h42) (lp_r (lpS_r (Eq.trans (hq68) (Eq.trans (if_pos h77) (Eq.trans (if_pos h78) (Eq.trans (bnd_of (getD_of hx82)) (Eq.trans (bnd_of (getD_of hx84)) (if_pos h85)))))))))))
  obtain ⟨rfl, rfl⟩ := pj2 (e.symm.trans hr)
  exact ⟨none, 0, rfl, H87, (by first | omega | (simp only [List.length_append]; omega) | exact Nat.zero_le _)⟩
  refine Wp.cond0 rfl (decide_eq_false h85) (Wp.skip (Fin.then (Wp.seq ?_)))
  have H89 := H80.drew
  refine Wp.drawnX [] (fun W => ∃ L', Own w D W ([row A59 l61.length c60 (List.flatMap EntryD.cells l61) 52 7] ++ L')) (by kernel_rfl) (by kernel_rfl) (NoP.then (NoP.block (NoP.then (NoP.block (NoP.then NoP.base))))) ⟨_, H89⟩ ?_
  revert H89
  generalize World.drew w79 = w88
  intro H89
  refine GX.take (v := .slice A53 l55.length c54) (rs := []) 0 rfl (by kernel_rfl) (fun _ _ => Yl.move rfl) (GX.take (v := .pointer (some ⟨ab A53, ao A53 + 0 * 7, none⟩)) (rs := []) 1 rfl (by kernel_rfl) (fun _ ⟨_, H9⟩ => Yl.indexAddr (El22) rfl rfl ((SubS.rds EntryD.len (by decide) hi69 (H9.ro hx0)).addr (i := 0) (by omega)) (by omega)) (GX.take (v := .pointer (some ⟨ab A53, ao A53 + 0 * 7, none⟩)) (rs := []) 2 rfl (by kernel_rfl) (fun _ _ => Yl.kern rfl rfl (fun _ => by kernel_rfl)) (GX.take (v := .int .u64 ((x81.xSeq : Nat) : Int)) (rs := []) 3 rfl (by kernel_rfl) (fun _ ⟨_, H9⟩ => Yl.load rfl (Lds.one Try.isAgg48 (((SubS.rds EntryD.len (by decide) hi69 (H9.ro hx0)).elem EntryD.len hx82 (by decide)).at_ (k := 0) rfl))) (GX.take (v := .slice A56 l58.length c57) (rs := []) 4 rfl (by kernel_rfl) (fun _ _ => Yl.move rfl) (GX.take (v := .pointer (some ⟨ab A56, ao A56 + 0 * 7, none⟩)) (rs := []) 5 rfl (by kernel_rfl) (fun _ ⟨_, H9⟩ => Yl.indexAddr (El22) rfl rfl ((SubS.rds EntryD.len (by decide) hi70 (H9.ro hx1)).addr (i := 0) (by omega)) (by omega)) (GX.take (v := .pointer (some ⟨ab A56, ao A56 + 0 * 7, none⟩)) (rs := []) 6 rfl (by kernel_rfl) (fun _ _ => Yl.kern rfl rfl (fun _ => by kernel_rfl)) (GX.take (v := .int .u64 ((x83.xSeq : Nat) : Int)) (rs := []) 7 rfl (by kernel_rfl) (fun _ ⟨_, H9⟩ => Yl.load rfl (Lds.one Try.isAgg48 (((SubS.rds EntryD.len (by decide) hi70 (H9.ro hx1)).elem EntryD.len hx84 (by decide)).at_ (k := 0) rfl))) (GX.take (v := .bool (decide (((x81.xSeq : Nat) : Int) < ((x83.xSeq : Nat) : Int)))) (rs := []) 8 rfl (by kernel_rfl) (fun _ _ => Yl.kern rfl rfl (fun _ => by kernel_rfl)) (GX.done (by kernel_rfl) (Fin.then ?_))))))))))
  by_cases h90 : ((x81.xSeq : Nat) : Int) < ((x83.xSeq : Nat) : Int)
  refine Wp.cond1 rfl (decide_eq_true h90) ?_
  have H92 := H89.drew
  refine Wp.drawnX [] (fun W => ∃ L', Own w D W ([] ++ L')) (by kernel_rfl) (by kernel_rfl) (NoP.block (NoP.then (NoP.block (NoP.then NoP.base)))) ⟨_, H92⟩ ?_
  revert H92
  generalize World.drew w88 = w91
  intro H92
  refine GX.take (v := .slice A59 l61.length c60) (rs := []) 0 rfl (by kernel_rfl) (fun _ _ => Yl.move rfl) (GX.take (v := .slice A53 l55.length c54) (rs := []) 1 rfl (by kernel_rfl) (fun _ _ => Yl.move rfl) (GX.take (v := .pointer (some ⟨ab A53, ao A53 + 0 * 7, none⟩)) (rs := []) 2 rfl (by kernel_rfl) (fun _ ⟨_, H9⟩ => Yl.indexAddr (El22) rfl rfl ((SubS.rds EntryD.len (by decide) hi69 (H9.ro hx0)).addr (i := 0) (by omega)) (by omega)) (GX.take (v := .agg (EntryD.cells x81).toArray) (rs := []) 3 rfl (by kernel_rfl) (fun _ ⟨_, H9⟩ => Yl.load rfl (Lds.agg (cs := (EntryD.cells x81)) Try.isAgg52 Try.sizeOf52 ((SubS.rds EntryD.len (by decide) hi69 (H9.ro hx0)).elem EntryD.len hx82 (by decide)))) (GX.take (v := .slice A53 l55.length c54) (rs := []) 6 rfl (by kernel_rfl) (fun _ _ => Yl.move rfl) (GX.take (v := .slice (cutA A53 1 7 c54) (l55.length - 1) (c54 - 1)) (rs := []) 7 rfl (by kernel_rfl) (fun _ _ => Yl.cutFrom (El22) rfl rfl (by omega)) ?_)))))
  refine GX.do 4 rfl (by kernel_rfl) (Do.newRow (cs := (EntryD.cells x81)) (t := 52) (sz := 7) (m := 1) H92 rfl rfl (fun _ => by kernel_rfl) rfl (by decide) ?_)
  intro A93 w94 H95
  replace H95 : Own w D w94 [row A93 1 1 (List.flatMap EntryD.cells ([x81])) 52 7, row A59 l61.length c60 (List.flatMap EntryD.cells l61) 52 7] := H95
  refine ⟨.inr ⟨_, H95⟩, ?_⟩
  have H96 := H95.pick [1, 0] (by decide) rfl
  refine GX.do 5 rfl (by kernel_rfl) (Do.appendW (k := l61.length) (m := 1) (El22) H96 rfl rfl (src_of Try.underlying22 (H96.rds (i := 1) rfl) (flat_one EntryD.one ([x81]))) rfl (by omega) (s := List.length (l61 ++ [x81])) (by first | omega | (simp only [List.length_append, List.length_cons, List.length_nil] <;> omega)) (List.flatMap_append).symm ?_)
  intro A97 c98 w99 H100
  have hl101 : List.length (l61 ++ [x81]) = l61.length + 1 := by simp only [List.length_append, List.length_cons, List.length_nil]
  refine ⟨.inr ⟨_, H100⟩, ?_⟩
  refine GX.take (v := .slice A97 (List.length (l61 ++ [x81])) c98) (rs := []) 8 rfl (by kernel_rfl) (fun _ _ => Yl.assign rfl) (GX.take (v := .slice (cutA A53 1 7 c54) (l55.length - 1) (c54 - 1)) (rs := []) 9 rfl (by kernel_rfl) (fun _ _ => Yl.assign rfl) (GX.done (by kernel_rfl) (Fin.blockN ?_)))
  have hn102 : l55.length - 1 = List.length (List.drop 1 l55) := by first | omega | (simp only [List.length_drop, List.length_take] <;> omega)
  have H104 := H100.pick [0] (by decide) rfl
  exact Fin.round (cutA A53 1 7 c54, c54 - 1, (List.drop 1 l55), A56, c57, l58, A97, c98, (l61 ++ [x81]), f75) ⟨(sl_n hn102), rfl, rfl, rfl, rfl, trivial⟩ ⟨H104, (show SubS 7 A0 c0 l0 (cutA A53 1 7 c54) (c54 - 1) (List.drop 1 l55) ∧ SubS 7 A1 c1 l1 A56 c57 l58 ∧ List.length (l61 ++ [x81]) + (List.length (List.drop 1 l55) + l58.length) ≤ l0.length + l1.length ∧ List.length (List.drop 1 l55) + l58.length < f75 ∧ buffer_Merge_L0 ((l0.length + l1.length) + 1) l0 l1 ([]) = buffer_Merge_L0 f75 (List.drop 1 l55) l58 (l61 ++ [x81]) from ⟨by exact (SubS.cut hi69 (by first | omega | (simp only [List.length_drop]; omega))), by exact hi70, by first | omega | (simp only [List.length_append, List.length_drop, List.length_cons, List.length_nil] <;> omega), by omega, Eq.trans (hq68) (Eq.trans (if_pos h77) (Eq.trans (if_pos h78) (Eq.trans (bnd_of (getD_of hx82)) (Eq.trans (bnd_of (getD_of hx84)) (Eq.trans (if_neg h85) (if_pos h90))))))⟩)⟩ (by show f75 < f75 + 1; omega)
  refine Wp.cond0 rfl (decide_eq_false h90) ?_
  have H106 := H89.drew
  refine Wp.drawnX [] (fun W => ∃ L', Own w D W ([] ++ L')) (by kernel_rfl) (by kernel_rfl) (NoP.block (NoP.then (NoP.block (NoP.then NoP.base)))) ⟨_, H106⟩ ?_
  revert H106
  generalize World.drew w88 = w105
  intro H106
  refine GX.take (v := .slice A59 l61.length c60) (rs := []) 0 rfl (by kernel_rfl) (fun _ _ => Yl.move rfl) (GX.take (v := .slice A56 l58.length c57) (rs := []) 1 rfl (by kernel_rfl) (fun _ _ => Yl.move rfl) (GX.take (v := .pointer (some ⟨ab A56, ao A56 + 0 * 7, none⟩)) (rs := []) 2 rfl (by kernel_rfl) (fun _ ⟨_, H9⟩ => Yl.indexAddr (El22) rfl rfl ((SubS.rds EntryD.len (by decide) hi70 (H9.ro hx1)).addr (i := 0) (by omega)) (by omega)) (GX.take (v := .agg (EntryD.cells x83).toArray) (rs := []) 3 rfl (by kernel_rfl) (fun _ ⟨_, H9⟩ => Yl.load rfl (Lds.agg (cs := (EntryD.cells x83)) Try.isAgg52 Try.sizeOf52 ((SubS.rds EntryD.len (by decide) hi70 (H9.ro hx1)).elem EntryD.len hx84 (by decide)))) (GX.take (v := .slice A56 l58.length c57) (rs := []) 6 rfl (by kernel_rfl) (fun _ _ => Yl.move rfl) (GX.take (v := .slice (cutA A56 1 7 c57) (l58.length - 1) (c57 - 1)) (rs := []) 7 rfl (by kernel_rfl) (fun _ _ => Yl.cutFrom (El22) rfl rfl (by omega)) ?_)))))
  refine GX.do 4 rfl (by kernel_rfl) (Do.newRow (cs := (EntryD.cells x83)) (t := 52) (sz := 7) (m := 1) H106 rfl rfl (fun _ => by kernel_rfl) rfl (by decide) ?_)
  intro A107 w108 H109
  replace H109 : Own w D w108 [row A107 1 1 (List.flatMap EntryD.cells ([x83])) 52 7, row A59 l61.length c60 (List.flatMap EntryD.cells l61) 52 7] := H109
  refine ⟨.inr ⟨_, H109⟩, ?_⟩
  have H110 := H109.pick [1, 0] (by decide) rfl
  refine GX.do 5 rfl (by kernel_rfl) (Do.appendW (k := l61.length) (m := 1) (El22) H110 rfl rfl (src_of Try.underlying22 (H110.rds (i := 1) rfl) (flat_one EntryD.one ([x83]))) rfl (by omega) (s := List.length (l61 ++ [x83])) (by first | omega | (simp only [List.length_append, List.length_cons, List.length_nil] <;> omega)) (List.flatMap_append).symm ?_)
  intro A111 c112 w113 H114
  have hl115 : List.length (l61 ++ [x83]) = l61.length + 1 := by simp only [List.length_append, List.length_cons, List.length_nil]
  refine ⟨.inr ⟨_, H114⟩, ?_⟩
  refine GX.take (v := .slice A111 (List.length (l61 ++ [x83])) c112) (rs := []) 8 rfl (by kernel_rfl) (fun _ _ => Yl.assign rfl) (GX.take (v := .slice (cutA A56 1 7 c57) (l58.length - 1) (c57 - 1)) (rs := []) 9 rfl (by kernel_rfl) (fun _ _ => Yl.assign rfl) (GX.done (by kernel_rfl) (Fin.blockN ?_)))
  have hn116 : l58.length - 1 = List.length (List.drop 1 l58) := by first | omega | (simp only [List.length_drop, List.length_take] <;> omega)
  have H118 := H114.pick [0] (by decide) rfl
  exact Fin.round (A53, c54, l55, cutA A56 1 7 c57, c57 - 1, (List.drop 1 l58), A111, c112, (l61 ++ [x83]), f75) ⟨rfl, (sl_n hn116), rfl, rfl, rfl, trivial⟩ ⟨H118, (show SubS 7 A0 c0 l0 A53 c54 l55 ∧ SubS 7 A1 c1 l1 (cutA A56 1 7 c57) (c57 - 1) (List.drop 1 l58) ∧ List.length (l61 ++ [x83]) + (l55.length + List.length (List.drop 1 l58)) ≤ l0.length + l1.length ∧ l55.length + List.length (List.drop 1 l58) < f75 ∧ buffer_Merge_L0 ((l0.length + l1.length) + 1) l0 l1 ([]) = buffer_Merge_L0 f75 l55 (List.drop 1 l58) (l61 ++ [x83]) from ⟨by exact hi69, by exact (SubS.cut hi70 (by first | omega | (simp only [List.length_drop]; omega))), by first | omega | (simp only [List.length_append, List.length_drop, List.length_cons, List.length_nil] <;> omega), by omega, Eq.trans (hq68) (Eq.trans (if_pos h77) (Eq.trans (if_pos h78) (Eq.trans (bnd_of (getD_of hx82)) (Eq.trans (bnd_of (getD_of hx84)) (Eq.trans (if_neg h85) (if_neg h90))))))⟩)⟩ (by show f75 < f75 + 1; omega)
  refine Wp.cond0 rfl (decide_eq_false h78) (Wp.exit (Fin.thenX (Fin.thenX (Fin.blockX ?_))))
  have H119 := H66.pick [0] (by decide) rfl
  exact Fin.join (A53, c54, l55, A56, c57, l58, A59, c60, l61) ⟨rfl, rfl, rfl, rfl, rfl, trivial⟩ ⟨H119, (show SubS 7 A0 c0 l0 A53 c54 l55 ∧ SubS 7 A1 c1 l1 A56 c57 l58 ∧ l55.length ≤ l0.length ∧ l55.length ≤ l0.length + 1 ∧ l58.length ≤ l1.length ∧ l58.length ≤ l1.length + 1 ∧ 0 ≤ l61.length ∧ l61.length + (l55.length + l58.length) ≤ l0.length + l1.length ∧ (lpS (buffer_Merge_L0 ((l0.length + l1.length) + 1) l0 l1 ([])) fun sLrbtbtJjL => Sum.inl (sLrbtbtJjL.1, sLrbtbtJjL.2.1, sLrbtbtJjL.2.2)) = Sum.inl (l55, l58, l61) from ⟨by exact hi69, by exact hi70, by omega, by omega, by omega, by omega, by omega, by first | omega | (simp only [List.length_append, List.length_drop, List.length_cons, List.length_nil] <;> omega), lpS_l (Eq.trans (hq68) (Eq.trans (if_pos h77) (if_neg h78)))⟩)⟩
  refine Sk rfl rfl (decide_eq_false h77) rfl (Sk rfl rfl (decide_eq_false h77) rfl (Sk rfl rfl (decide_eq_false h77) rfl (WL.val (v := .bool false) rfl (Yl.pickF rfl (decide_eq_false h77) rfl) (WL.nil (Fin.then (Wp.cond0 rfl rfl (Wp.exit (Fin.thenX (Fin.thenX (Fin.blockX ?_))))))))))
  have H120 := H66.pick [0] (by decide) rfl
  exact Fin.join (A53, c54, l55, A56, c57, l58, A59, c60, l61) ⟨rfl, rfl, rfl, rfl, rfl, trivial⟩ ⟨H120, (show SubS 7 A0 c0 l0 A53 c54 l55 ∧ SubS 7 A1 c1 l1 A56 c57 l58 ∧ l55.length ≤ l0.length ∧ l55.length ≤ l0.length + 1 ∧ l58.length ≤ l1.length ∧ l58.length ≤ l1.length + 1 ∧ 0 ≤ l61.length ∧ l61.length + (l55.length + l58.length) ≤ l0.length + l1.length ∧ (lpS (buffer_Merge_L0 ((l0.length + l1.length) + 1) l0 l1 ([])) fun sLrbtbtJjL => Sum.inl (sLrbtbtJjL.1, sLrbtbtJjL.2.1, sLrbtbtJjL.2.2)) = Sum.inl (l55, l58, l61) from ⟨by exact hi69, by exact hi70, by omega, by omega, by omega, by omega, by omega, by first | omega | (simp only [List.length_append, List.length_drop, List.length_cons, List.length_nil] <;> omega), lpS_l (Eq.trans (hq68) (if_neg h77))⟩)⟩
  rintro ⟨A43, c44, l45, A46, c47, l48, A49, c50, l51⟩ w121 ⟨H122, hf123⟩
  show Wp _ _ _ [(0, .slice A43 l45.length c44), (1, .slice A46 l48.length c47), (4, .slice none 0 0), (5, .int .i64 0), (8, .slice A49 l51.length c50)] _ _
  replace H122 : Own w D w121 [row A49 l51.length c50 (List.flatMap EntryD.cells l51) 52 7] := H122
  replace hf123 : SubS 7 A0 c0 l0 A43 c44 l45 ∧ SubS 7 A1 c1 l1 A46 c47 l48 ∧ l45.length ≤ l0.length ∧ l45.length ≤ l0.length + 1 ∧ l48.length ≤ l1.length ∧ l48.length ≤ l1.length + 1 ∧ 0 ≤ l51.length ∧ l51.length + (l45.length + l48.length) ≤ l0.length + l1.length ∧ (lpS (buffer_Merge_L0 ((l0.length + l1.length) + 1) l0 l1 ([])) fun sLrbtbtJjL => Sum.inl (sLrbtbtJjL.1, sLrbtbtJjL.2.1, sLrbtbtJjL.2.2)) = Sum.inl (l45, l48, l51) := hf123
  obtain ⟨hi125, hi126, hi127, hi128, hi129, hi130, hi131, hi132, hj124⟩ := hf123
  have hz133 := (hi125).le
  have hz134 := (hi126).le
  refine Wp.seq (Wp.region (Mv rfl rfl (Mv rfl rfl ?_)))
  refine WL.do rfl (Do.appendW (k := l51.length) (m := l45.length) (El22) H122 rfl rfl (src_of Try.underlying22 (SubS.rds EntryD.len (by decide) hi125 (H122.ro hx0)) (flat_one EntryD.one l45)) rfl (by omega) (s := List.length (l51 ++ l45)) (by first | omega | (simp only [List.length_append, List.length_cons, List.length_nil] <;> omega)) (List.flatMap_append).symm ?_)
  intro A135 c136 w137 H138
  have hl139 : List.length (l51 ++ l45) = l51.length + l45.length := by simp only [List.length_append, List.length_cons, List.length_nil]
  refine Mv rfl rfl ?_
  refine WL.do rfl (Do.appendW (k := List.length (l51 ++ l45)) (m := l48.length) (El22) H138 rfl rfl (src_of Try.underlying22 (SubS.rds EntryD.len (by decide) hi126 (H138.ro hx1)) (flat_one EntryD.one l48)) rfl (by omega) (s := List.length ((l51 ++ l45) ++ l48)) (by first | omega | (simp only [List.length_append, List.length_cons, List.length_nil] <;> omega)) (List.flatMap_append).symm ?_)
  intro A140 c141 w142 H143
  have hl144 : List.length ((l51 ++ l45) ++ l48) = (List.length (l51 ++ l45)) + l48.length := by simp only [List.length_append, List.length_cons, List.length_nil]
  refine As rfl rfl (As rfl rfl (WL.nil (Fin.then (Wp.ret (Fin.res (res2 rfl rfl rfl) ?_)))))
  have H145 := H143.pick [0] (by decide) rfl
  have e : buffer_Merge l0 l1 = (((l51 ++ l45) ++ l48), 0) := Eq.trans (bnd_of hr27) (Eq.trans (if_pos h31) (Eq.trans (bnd_of hr38) (Eq.trans (if_pos h42) (lp_l hj124))))
  obtain ⟨rfl, rfl⟩ := pj2 (e.symm.trans hr)
  exact ⟨A140, c141, rfl, H145, (by first | omega | (simp only [List.length_append]; omega) | exact Nat.zero_le _)⟩
  refine Wp.cond1 rfl (decide_eq_true h42) (Wp.seq (Wp.region (Mv rfl rfl (As rfl rfl (As rfl rfl (WL.nil (Fin.then (Wp.ret (Fin.thenR (Fin.res (res2 rfl rfl rfl) ?_))))))))))
  have H146 : Own w D w39 [row none 0 0 (List.flatMap EntryD.cells ([])) 52 7] := H41.free (row_nil 52 7)
  have H147 := H146.pick [0] (by decide) rfl
  have e : buffer_Merge l0 l1 = ([], r37) := Eq.trans (bnd_of hr27) (Eq.trans (if_pos h31) (Eq.trans (bnd_of hr38) (if_neg h42)))
  obtain ⟨rfl, rfl⟩ := pj2 (e.symm.trans hr)
  exact ⟨none, 0, rfl, H147, (by first | omega | (simp only [List.length_append]; omega) | exact Nat.zero_le _)⟩
  refine Wp.cond1 rfl (decide_eq_true h31) (Wp.seq (Wp.region (Mv rfl rfl (As rfl rfl (As rfl rfl (WL.nil (Fin.then (Wp.ret (Fin.thenR (Fin.res (res2 rfl rfl rfl) ?_))))))))))
  have H148 : Own w D w28 [row none 0 0 (List.flatMap EntryD.cells ([])) 52 7] := H30.free (row_nil 52 7)
  have H149 := H148.pick [0] (by decide) rfl
  have e : buffer_Merge l0 l1 = ([], r26) := Eq.trans (bnd_of hr27) (if_neg h31)
  obtain ⟨rfl, rfl⟩ := pj2 (e.symm.trans hr)
  exact ⟨none, 0, rfl, H149, (by first | omega | (simp only [List.length_append]; omega) | exact Nat.zero_le _)⟩
end Go.Proofs.Ytblpdbnklopchaa
