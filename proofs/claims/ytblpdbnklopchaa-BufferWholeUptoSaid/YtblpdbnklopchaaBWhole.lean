/-
  buffer: the law BufferWhole
-/
import Derived.Test.YtblpdbnklopchaaBp
namespace Go.Proofs.Ytblpdbnklopchaa
open Go.RowKit
set_option linter.unusedVariables false
set_option linter.unusedSectionVars false
set_option linter.unusedSimpArgs false

def w12_BufferWhole_L0 (l0 : List PairD) (l2 : List (List UInt8)) (r26 : Bool) (r36 : List (Ll EntryD)) (r55 : List PairD) : List (Ll EntryD) → List PairD → Nat → (List PairD) ⊕ Bool
  | [], l70, k71 => Sum.inl l70
  | x81 :: q72, l70, k71 => bnd (r12_Range l2 ((k71 : Nat) : Int)) fun yr92 => bnd (r04_Within l0 yr92 (-1)) fun yr102 => bnd (buffer_Apply yr102 x81.ls) fun yr116 => if yr116.2 = 0 then w12_BufferWhole_L0 l0 l2 r26 r36 r55 q72 (l70 ++ yr116.1) (k71 + 1) else Sum.inr (false)

def w12_BufferWhole (l0 : List PairD) (l1 : List EntryD) (l2 : List (List UInt8)) : Bool :=
  bnd (w12_live) fun yr26 => bnd (buffer_Part l1 l2) fun yr36 => bnd (buffer_Apply l0 l1) fun yr55 => if yr36.2 = 0 then if yr55.2 = 0 then lp (w12_BufferWhole_L0 l0 l2 yr26 yr36.1 yr55.1 yr36.1 ([]) 0) fun sLrbbbttL => if yr26 = true then if ((yr36.1.length : Nat) : Int) = ((l2.length + 1 : Nat) : Int) then bnd (r04_SameMap sLrbbbttL yr55.1) fun yr143 => yr143 else false else false else yr26 else yr26

set_option maxRecDepth 100000 in
set_option maxHeartbeats 1000000 in
theorem w12_BufferWhole_ok (w : World) (D : Nat → Prop) (A0 : Option Addr) (n0 c0 : Nat) (l0 : List PairD) (A1 : Option Addr) (n1 c1 : Nat) (l1 : List EntryD) (A2 : Option Addr) (n2 c2 : Nat) (l2 : List (List UInt8)) (r0 : Bool) (H : Own w D w []) (hx0 : Ro w D fun w' => Rds w' 2 A0 n0 (List.flatMap PairD.cells l0)) (hn0 : n0 = l0.length) (hl0 : l0.length * 32 ≤ 211106232532992) (hx1 : Ro w D fun w' => Rds w' 7 A1 n1 (List.flatMap EntryD.cells l1)) (hn1 : n1 = l1.length) (hl1 : l1.length * 88 ≤ 211106232532992) (hx2 : Ro w D fun w' => Rds w' 1 A2 n2 (List.flatMap eS l2)) (hn2 : n2 = l2.length) (hl2 : l2.length * 16 ≤ 211106232532992) (hq2 : l2.length ≤ c2) (hh0 : l0.length * 32 ≤ 140737488351232) (hh1 : l1.length * 88 ≤ 140737488351232) (hh2 : l2.length * 16 ≤ 140737488351232) (hh3 : l0.length ≤ 1048576 ∧ l1.length ≤ 1048576 ∧ l2.length ≤ 1048576) (hr : w12_BufferWhole l0 l1 l2 = r0) :
    Calls Try.prog 4 #[.slice A0 n0 c0, .slice A1 n1 c1, .slice A2 n2 c2] w (Ret fun v w' => v = .bool r0 ∧ Own w D w' []) := by
  subst hn0 hn1 hn2
  refine Calls.body (args := [.slice A0 l0.length c0, .slice A1 l1.length c1, .slice A2 l2.length c2]) Try.func4 rfl rfl rfl ?_
  show Wp _ _ _ [(0, .slice A0 l0.length c0), (1, .slice A1 l1.length c1), (2, .slice A2 l2.length c2)] _ _
  refine Wp.seq (Wp.region (As rfl rfl (WL.nil (Fin.then (Wp.seq (Wp.region ?_))))))
  obtain ⟨r26, hr27⟩ : ∃ q, w12_live = q := ⟨_, rfl⟩
  obtain ⟨D21, HP22, ro23, bk24, rr25⟩ := Own.enter0 H
  refine WL.do rfl (Do.call Try.call7 rfl (w12_live_ok _ _ r26 HP22 hr27) ?_)
  rintro _ w28 ⟨rfl, HQ29⟩
  have H30 := bk24 _ _ HQ29
  refine As rfl rfl (WL.nil (Fin.then (Wp.seq (Wp.region (Mv rfl rfl (Mv rfl rfl ?_))))))
  obtain ⟨⟨r36, r37⟩, hr38⟩ : ∃ q : (List (Ll EntryD)) × Int, buffer_Part l1 l2 = q := ⟨_, rfl⟩
  obtain ⟨D31, HP32, ro33, bk34, rr35⟩ := Own.enter0 H30
  refine WL.do rfl (Do.call Try.call12 rfl (buffer_Part_ok _ _ A1 l1.length c1 l1 A2 l2.length c2 l2 r36 r37 HP32 (ro33 _ hx1) rfl (by omega) (ro33 _ hx2) rfl (by omega) (by first | omega | (simp only [List.length_take, List.length_drop]; omega) | exact Nat.le_refl _) (by first | omega | (simp only [List.length_cons, List.length_nil]; omega)) hr38) ?_)
  rintro _ w39 ⟨A42, c43, d44, rfl, HQ40, hd45, hk46, hk47⟩
  have H41 := bk34 _ _ HQ40
  have hl48 := abs_len hd45
  have hb49 := H41.rowC (i := 0) rfl
  replace hk46 : rl r36 l1.length 0 := hk46
  replace hk47 : r36.length ≤ l2.length + 1 := hk47
  refine Mv rfl rfl (Kn (v := .slice A42 r36.length c43) rfl rfl rfl (fun _ => by kernel_rfl) (Kn (v := .int .i64 r37) rfl rfl rfl (fun _ => by kernel_rfl) (As rfl rfl (As rfl rfl (WL.nil (Fin.then (Wp.seq (Wp.region (Mv rfl rfl (Mv rfl rfl ?_))))))))))
  obtain ⟨⟨r55, r56⟩, hr57⟩ : ∃ q : (List PairD) × Int, buffer_Apply l0 l1 = q := ⟨_, rfl⟩
  obtain ⟨D50, HP51, ro52, bk53, rr54⟩ := Own.enter0 H41
  refine WL.do rfl (Do.call Try.call13 rfl (buffer_Apply_ok _ _ A0 l0.length c0 l0 A1 l1.length c1 l1 r55 r56 HP51 (ro52 _ hx0) rfl (by omega) (ro52 _ hx1) rfl (by omega) (by first | omega | (simp only [List.length_cons, List.length_nil]; done) | (simp only [List.length_cons, List.length_nil, List.length_take, List.length_drop]; omega)) hr57) ?_)
  rintro _ w58 ⟨A61, c62, rfl, HQ59, hk63⟩
  have H60 := bk53 _ _ HQ59
  have hb64 := H60.rowC (i := 0) rfl
  replace hk63 : r55.length ≤ l0.length + l1.length := hk63
  refine Mv rfl rfl (Kn (v := .slice A61 r55.length c62) rfl rfl rfl (fun _ => by kernel_rfl) (Kn (v := .int .i64 r56) rfl rfl rfl (fun _ => by kernel_rfl) (As rfl rfl (As rfl rfl (WL.nil (Fin.then (Wp.seq (Wp.seq (Wp.region (Mv rfl rfl (WL.val (v := .bool (decide (¬ (r37 = 0)))) rfl (Yl.bool (e := !(decide (r37 = 0))) (Yl.kern rfl rfl (fun _ => by kernel_rfl)) decide_not.symm) (Mv rfl rfl ?_))))))))))))
  by_cases h65 : r37 = 0
  refine WL.valG (v := .int .i64 r56) rfl rfl (decide_eq_false (not_not_intro h65)) rfl (Yl.move rfl) (WL.valG (v := .bool (decide (¬ (r56 = 0)))) rfl rfl (decide_eq_false (not_not_intro h65)) rfl (Yl.bool (e := !(decide (r56 = 0))) (Yl.kern rfl rfl (fun _ => by kernel_rfl)) decide_not.symm) (WL.val (v := .bool (decide (¬ (r56 = 0)))) rfl (Yl.pickF rfl (decide_eq_false (not_not_intro h65)) rfl) (WL.nil (Fin.then ?_))))
  by_cases h66 : r56 = 0
  refine Wp.cond0 rfl (decide_eq_false (not_not_intro h66)) (Wp.skip (Fin.then (Wp.seq (Wp.region (As rfl rfl (WL.nil (Fin.then (Wp.seq (Wp.seq (Wp.region (Mv rfl rfl (Kn (v := .int .i64 ((r36.length : Nat) : Int)) rfl rfl rfl (fun _ => by kernel_rfl) (Mv rfl rfl (WL.nil (Fin.then (Wp.block ?_))))))))))))))))
  have H67 : Own w D w58 [row none 0 0 (List.flatMap PairD.cells ([])) 76 2, row A61 r55.length c62 (List.flatMap PairD.cells r55) 76 2, row A42 r36.length c43 (List.flatMap (Sv.enc (β := EntryD)) d44) 22 1, sepL (List.flatMap Row22D.own d44)] := H60.free (row_nil 76 2)
  have H73 := H67.pick [1, 2, 3, 0] (by decide) rfl
  refine Wp.loop (ι := (Option Addr) × Nat × (List PairD) × Nat) (fun i => [(6, .bool false), (12, .slice i.1 i.2.2.1.length i.2.1), (39, .int .i64 ((i.2.2.2 : Nat) : Int)), (38, .int .i64 ((r36.length : Nat) : Int)), (37, .slice A42 r36.length c43), (10, .slice A61 r55.length c62), (8, .slice A42 r36.length c43), (7, .bool r26), (0, .slice A0 l0.length c0), (2, .slice A2 l2.length c2)]) (fun (i : (Option Addr) × Nat × (List PairD) × Nat) w' => Own w D w' [row A61 r55.length c62 (List.flatMap PairD.cells r55) 76 2, row A42 r36.length c43 (List.flatMap (Sv.enc (β := EntryD)) d44) 22 1, sepL (List.flatMap Row22D.own d44), row i.1 i.2.2.1.length i.2.1 (List.flatMap PairD.cells i.2.2.1) 76 2] ∧ (i.2.2.2 ≤ r36.length ∧ i.2.2.1.length ≤ 2097152 * i.2.2.2 ∧ w12_BufferWhole_L0 l0 l2 r26 r36 r55 r36 ([]) 0 = w12_BufferWhole_L0 l0 l2 r26 r36 r55 (List.drop i.2.2.2 r36) i.2.2.1 i.2.2.2)) (fun i => r36.length - i.2.2.2) (none, 0, [], 0) ⟨rfl, rfl, rfl, rfl, rfl, rfl, rfl, rfl, rfl, rfl, trivial⟩ ⟨H73, (show 0 ≤ r36.length ∧ 0 ≤ 2097152 * 0 ∧ w12_BufferWhole_L0 l0 l2 r26 r36 r55 r36 ([]) 0 = w12_BufferWhole_L0 l0 l2 r26 r36 r55 (List.drop 0 r36) ([]) 0 from ⟨by omega, by first | omega | (simp only [List.length_append] <;> omega), rfl⟩)⟩ ?_
  rintro ⟨A68, c69, l70, k71⟩ w74 ⟨H75, hf76⟩
  show Wp _ _ _ [(6, .bool false), (12, .slice A68 l70.length c69), (39, .int .i64 ((k71 : Nat) : Int)), (38, .int .i64 ((r36.length : Nat) : Int)), (37, .slice A42 r36.length c43), (10, .slice A61 r55.length c62), (8, .slice A42 r36.length c43), (7, .bool r26), (0, .slice A0 l0.length c0), (2, .slice A2 l2.length c2)] _ _
  replace H75 : Own w D w74 [row A61 r55.length c62 (List.flatMap PairD.cells r55) 76 2, row A42 r36.length c43 (List.flatMap (Sv.enc (β := EntryD)) d44) 22 1, sepL (List.flatMap Row22D.own d44), row A68 l70.length c69 (List.flatMap PairD.cells l70) 76 2] := H75
  replace hf76 : k71 ≤ r36.length ∧ l70.length ≤ 2097152 * k71 ∧ w12_BufferWhole_L0 l0 l2 r26 r36 r55 r36 ([]) 0 = w12_BufferWhole_L0 l0 l2 r26 r36 r55 (List.drop k71 r36) l70 k71 := hf76
  obtain ⟨hi78, hi79, hq77⟩ := hf76
  refine Wp.seq (Wp.region (Kn (v := .bool (decide (((k71 : Nat) : Int) < ((r36.length : Nat) : Int)))) rfl rfl rfl (fun _ => by kernel_rfl) (WL.nil (Fin.then (Wp.seq ?_)))))
  by_cases h80 : ((k71 : Nat) : Int) < ((r36.length : Nat) : Int)
  obtain ⟨x81, hx82⟩ := rds_at (ls := d44) (i := k71) svLen (by decide) (H75.rds (i := 1) rfl) (by first | omega | (simp; done) | (simp; omega))
  have hX83 := abs_at hd45 hx82
  have hb84 : x81.ls.length ≤ 9223372036854775807 := own_rd H75 (i := 2) rfl (φ := fun _ => _) (sepL_mem (List.mem_flatMap.2 ⟨x81, List.mem_of_getElem? hx82, .head _⟩) row_le)
  have hz85 : x81.ls.length ≤ l1.length := rl_at0 (by assumption) hX83
  have hd86 := drop_at hX83
  refine Wp.cond1 rfl (decide_eq_true h80) (Wp.skip (Fin.then (Wp.seq (Wp.block (Wp.seq (Wp.region (Mv rfl rfl (WL.val (v := .pointer (some ⟨ab A42, ao A42 + k71 * 1, none⟩)) rfl (Yl.indexAddr (El31) rfl rfl ((H75.rds (i := 1) rfl).addr (i := k71) (by omega)) (by omega)) (WL.val (v := .slice x81.A x81.ls.length x81.c) rfl (Yl.load rfl (Lds.one Try.isAgg22 (((H75.rds (i := 1) rfl).elem svLen hx82 (by decide)).at_ (k := 0) rfl))) (As rfl rfl (As rfl rfl (WL.nil (Fin.then (Wp.seq (Wp.region (Mv rfl rfl (Mv rfl rfl (Mv rfl rfl ?_))))))))))))))))))
  obtain ⟨r92, hr93⟩ : ∃ q, r12_Range l2 ((k71 : Nat) : Int) = q := ⟨_, rfl⟩
  obtain ⟨D87, HP88, ro89, bk90, rr91⟩ := Own.enter0 H75
  refine WL.do rfl (Do.call Try.call15 rfl (r12_Range_ok _ _ A2 l2.length c2 l2 ((k71 : Nat) : Int) r92 HP88 (ro89 _ hx2) rfl (by omega) (by omega) hr93) ?_)
  rintro _ w94 ⟨rfl, HQ95⟩
  have H96 := bk90 _ _ HQ95
  obtain ⟨r102, hr103⟩ : ∃ q, r04_Within l0 r92 (-1) = q := ⟨_, rfl⟩
  obtain ⟨D97, HP98, ro99, bk100, rr101⟩ := Own.enter0 H96
  refine WL.do rfl (Do.call Try.call14 rfl (r04_Within_ok _ _ A0 l0.length c0 l0 r92 (-1) r102 HP98 (ro99 _ hx0) rfl (by omega) hr103) ?_)
  rintro _ w104 ⟨A107, c108, rfl, HQ105, hk109⟩
  have H106 := bk100 _ _ HQ105
  have hb110 := H106.rowC (i := 0) rfl
  replace hk109 : r102.length ≤ l0.length := hk109
  refine Mv rfl rfl ?_
  obtain ⟨⟨r116, r117⟩, hr118⟩ : ∃ q : (List PairD) × Int, buffer_Apply r102 x81.ls = q := ⟨_, rfl⟩
  obtain ⟨D111, HP112, ro113, bk114, rr115⟩ := Own.enter0 H106
  refine WL.do rfl (Do.call Try.call13 rfl (buffer_Apply_ok _ _ A107 r102.length c108 r102 x81.A x81.ls.length x81.c x81.ls r116 r117 HP112 (rr115 _ 0 _ rfl row_rds) rfl (by omega) (rr115 _ 3 _ rfl (sepL_mem (List.mem_flatMap.2 ⟨x81, List.mem_of_getElem? hx82, .head _⟩) row_rds)) rfl (by omega) (by first | omega | (simp only [List.length_cons, List.length_nil]; done) | (simp only [List.length_cons, List.length_nil, List.length_take, List.length_drop]; omega)) hr118) ?_)
  rintro _ w119 ⟨A122, c123, rfl, HQ120, hk124⟩
  have H121 := bk114 _ _ HQ120
  have hb125 := H121.rowC (i := 0) rfl
  replace hk124 : r116.length ≤ r102.length + x81.ls.length := hk124
  refine Mv rfl rfl (Kn (v := .slice A122 r116.length c123) rfl rfl rfl (fun _ => by kernel_rfl) (Kn (v := .int .i64 r117) rfl rfl rfl (fun _ => by kernel_rfl) (As rfl rfl (As rfl rfl (WL.nil (Fin.then (Wp.seq (Wp.seq (Wp.region (Mv rfl rfl (WL.val (v := .bool (decide (¬ (r117 = 0)))) rfl (Yl.bool (e := !(decide (r117 = 0))) (Yl.kern rfl rfl (fun _ => by kernel_rfl)) decide_not.symm) (WL.nil (Fin.then ?_)))))))))))))
  by_cases h126 : r117 = 0
  refine Wp.cond0 rfl (decide_eq_false (not_not_intro h126)) (Wp.skip (Fin.then (Wp.region (Mv rfl rfl (Mv rfl rfl ?_)))))
  have H127 := H121.pick [5, 0, 1, 2, 3, 4] (by decide) rfl
  refine WL.do rfl (Do.appendW (k := l70.length) (m := r116.length) (El29) H127 rfl rfl (src_of Try.underlying29 (H127.rds (i := 1) rfl) (flat_one PairD.one r116)) rfl (by omega) (s := List.length (l70 ++ r116)) (by first | omega | (simp only [List.length_append, List.length_cons, List.length_nil] <;> omega)) (List.flatMap_append).symm ?_)
  intro A128 c129 w130 H131
  have hl132 : List.length (l70 ++ r116) = l70.length + r116.length := by simp only [List.length_append, List.length_cons, List.length_nil]
  refine As rfl rfl (WL.nil (Fin.blockN (Fin.then (Wp.region (WL.val (v := .int .i64 ((k71 + 1 : Nat) : Int)) rfl (Yl.int (e := IntKind.i64.wrap (((k71 : Nat) : Int) + 1)) (Yl.kern rfl rfl (fun _ => by kernel_rfl)) (by rw [IntWalk.i64_in _ (by omega)]; omega)) (Mv rfl rfl (WL.nil ?_)))))))
  have H133 := H131.pick [3, 4, 5, 0] (by decide) rfl
  exact Fin.round (A128, c129, (l70 ++ r116), k71 + 1) ⟨rfl, rfl, rfl, rfl, rfl, rfl, rfl, rfl, rfl, rfl, trivial⟩ ⟨H133, (show (k71 + 1) ≤ r36.length ∧ List.length (l70 ++ r116) ≤ 2097152 * (k71 + 1) ∧ w12_BufferWhole_L0 l0 l2 r26 r36 r55 r36 ([]) 0 = w12_BufferWhole_L0 l0 l2 r26 r36 r55 (List.drop (k71 + 1) r36) (l70 ++ r116) (k71 + 1) from ⟨by omega, by first | omega | (simp only [List.length_append] <;> omega), Eq.trans (hq77) (Eq.trans (congrArg (fun q => w12_BufferWhole_L0 l0 l2 r26 r36 r55 q l70 k71) hd86) (Eq.trans (bnd_of hr93) (Eq.trans (bnd_of hr103) (Eq.trans (bnd_of hr118) (if_pos h126)))))⟩)⟩ (by show r36.length - (k71 + 1) < r36.length - k71; omega)
  refine Wp.cond1 rfl (decide_eq_true h126) (Wp.seq (Wp.region (As rfl rfl (WL.nil (Fin.then (Wp.ret (Fin.thenR (Fin.blockR (Fin.thenR (Fin.thenR (Fin.blockR (Fin.thenR (Fin.res (res1 rfl rfl) ?_)))))))))))))
  have H134 := H121.pick [] (by decide) rfl
  have e : w12_BufferWhole l0 l1 l2 = false := Eq.trans (bnd_of hr27) (Eq.trans (bnd_of hr38) (Eq.trans (bnd_of hr57) (Eq.trans (if_pos h65) (Eq.trans (if_pos h66) (lp_r (Eq.trans (hq77) (Eq.trans (congrArg (fun q => w12_BufferWhole_L0 l0 l2 r26 r36 r55 q l70 k71) hd86) (Eq.trans (bnd_of hr93) (Eq.trans (bnd_of hr103) (Eq.trans (bnd_of hr118) (if_neg h126)))))))))))
  obtain rfl := e.symm.trans hr
  exact ⟨rfl, H134⟩
  refine Wp.cond0 rfl (decide_eq_false h80) (Wp.exit (Fin.thenX ?_))
  have hL135 : w12_BufferWhole_L0 l0 l2 r26 r36 r55 r36 ([]) 0 = Sum.inl l70 := Eq.trans (hq77) (Eq.trans (congrArg (fun q => w12_BufferWhole_L0 l0 l2 r26 r36 r55 q l70 k71) (drop_end (ls := r36) (i := k71) (by omega))) rfl)
  refine Fin.thenX (Fin.blockX (Fin.then (Wp.seq (Wp.region (Mv rfl rfl (Mv rfl rfl ?_))))))
  rcases Bool.eq_false_or_eq_true (r26) with h136 | h136
  refine WL.valG (v := .slice A42 r36.length c43) rfl rfl h136 rfl (Yl.move rfl) (WL.valG (v := .int .i64 ((r36.length : Nat) : Int)) rfl rfl h136 rfl (Yl.kern rfl rfl (fun _ => by kernel_rfl)) (WL.valG (v := .slice A2 l2.length c2) rfl rfl h136 rfl (Yl.move rfl) (WL.valG (v := .int .i64 ((l2.length : Nat) : Int)) rfl rfl h136 rfl (Yl.kern rfl rfl (fun _ => by kernel_rfl)) (WL.valG (v := .int .i64 ((l2.length + 1 : Nat) : Int)) rfl rfl h136 rfl (Yl.int (e := IntKind.i64.wrap (((l2.length : Nat) : Int) + 1)) (Yl.kern rfl rfl (fun _ => by kernel_rfl)) (by rw [IntWalk.i64_in _ (by omega)]; omega)) (WL.valG (v := .bool (decide (((r36.length : Nat) : Int) = ((l2.length + 1 : Nat) : Int)))) rfl rfl h136 rfl (Yl.kern rfl rfl (fun _ => by kernel_rfl)) (WL.val (v := .bool (decide (((r36.length : Nat) : Int) = ((l2.length + 1 : Nat) : Int)))) rfl (Yl.pickT rfl h136 rfl) (Mv rfl rfl ?_)))))))
  by_cases h137 : ((r36.length : Nat) : Int) = ((l2.length + 1 : Nat) : Int)
  refine WL.valG (v := .slice A68 l70.length c69) rfl rfl (decide_eq_true h137) rfl (Yl.move rfl) (WL.valG (v := .slice A61 r55.length c62) rfl rfl (decide_eq_true h137) rfl (Yl.move rfl) ?_)
  obtain ⟨r143, hr144⟩ : ∃ q, r04_SameMap l70 r55 = q := ⟨_, rfl⟩
  obtain ⟨D138, HP139, ro140, bk141, rr142⟩ := Own.enter0 H75
  refine WL.doG rfl rfl (decide_eq_true h137) rfl (Do.call Try.call16 rfl (r04_SameMap_ok _ _ A68 l70.length c69 l70 A61 r55.length c62 r55 r143 HP139 (rr142 _ 3 _ rfl row_rds) rfl (by omega) (rr142 _ 0 _ rfl row_rds) rfl (by omega) hr144) ?_)
  rintro _ w145 ⟨rfl, HQ146⟩
  have H147 := bk141 _ _ HQ146
  refine WL.val (v := .bool r143) rfl (Yl.pickT rfl (decide_eq_true h137) rfl) (As rfl rfl (WL.nil (Fin.then (Wp.ret (Fin.res (res1 rfl rfl) ?_)))))
  have H148 := H147.pick [] (by decide) rfl
  have e : w12_BufferWhole l0 l1 l2 = r143 := Eq.trans (bnd_of hr27) (Eq.trans (bnd_of hr38) (Eq.trans (bnd_of hr57) (Eq.trans (if_pos h65) (Eq.trans (if_pos h66) (Eq.trans (lp_l hL135) (Eq.trans (if_pos h136) (Eq.trans (if_pos h137) (bnd_of hr144))))))))
  obtain rfl := e.symm.trans hr
  exact ⟨rfl, H148⟩
  refine Sk rfl rfl (decide_eq_false h137) rfl (Sk rfl rfl (decide_eq_false h137) rfl (Sk rfl rfl (decide_eq_false h137) rfl (WL.val (v := .bool false) rfl (Yl.pickF rfl (decide_eq_false h137) rfl) (As rfl rfl (WL.nil (Fin.then (Wp.ret (Fin.res (res1 rfl rfl) ?_))))))))
  have H149 := H75.pick [] (by decide) rfl
  have e : w12_BufferWhole l0 l1 l2 = false := Eq.trans (bnd_of hr27) (Eq.trans (bnd_of hr38) (Eq.trans (bnd_of hr57) (Eq.trans (if_pos h65) (Eq.trans (if_pos h66) (Eq.trans (lp_l hL135) (Eq.trans (if_pos h136) (if_neg h137)))))))
  obtain rfl := e.symm.trans hr
  exact ⟨rfl, H149⟩
  refine Sk rfl rfl h136 rfl (Sk rfl rfl h136 rfl (Sk rfl rfl h136 rfl (Sk rfl rfl h136 rfl (Sk rfl rfl h136 rfl (Sk rfl rfl h136 rfl (WL.val (v := .bool false) rfl (Yl.pickF rfl h136 rfl) (Mv rfl rfl (Sk rfl rfl rfl rfl (Sk rfl rfl rfl rfl (Sk rfl rfl rfl rfl (WL.val (v := .bool false) rfl (Yl.pickF rfl rfl rfl) (As rfl rfl (WL.nil (Fin.then (Wp.ret (Fin.res (res1 rfl rfl) ?_))))))))))))))))
  have H150 := H75.pick [] (by decide) rfl
  have e : w12_BufferWhole l0 l1 l2 = false := Eq.trans (bnd_of hr27) (Eq.trans (bnd_of hr38) (Eq.trans (bnd_of hr57) (Eq.trans (if_pos h65) (Eq.trans (if_pos h66) (Eq.trans (lp_l hL135) (ifF h136))))))
  obtain rfl := e.symm.trans hr
  exact ⟨rfl, H150⟩
  refine Wp.cond1 rfl (decide_eq_true h66) (Wp.seq (Wp.region (Mv rfl rfl (As rfl rfl (WL.nil (Fin.then (Wp.ret (Fin.thenR (Fin.res (res1 rfl rfl) ?_)))))))))
  have H151 := H60.pick [] (by decide) rfl
  have e : w12_BufferWhole l0 l1 l2 = r26 := Eq.trans (bnd_of hr27) (Eq.trans (bnd_of hr38) (Eq.trans (bnd_of hr57) (Eq.trans (if_pos h65) (if_neg h66))))
  obtain rfl := e.symm.trans hr
  exact ⟨rfl, H151⟩
  refine Sk rfl rfl (decide_eq_true h65) rfl (Sk rfl rfl (decide_eq_true h65) rfl (WL.val (v := .bool true) rfl (Yl.pickT rfl (decide_eq_true h65) rfl) (WL.nil (Fin.then (Wp.cond1 rfl rfl (Wp.seq (Wp.region (Mv rfl rfl (As rfl rfl (WL.nil (Fin.then (Wp.ret (Fin.thenR (Fin.res (res1 rfl rfl) ?_))))))))))))))
  have H152 := H60.pick [] (by decide) rfl
  have e : w12_BufferWhole l0 l1 l2 = r26 := Eq.trans (bnd_of hr27) (Eq.trans (bnd_of hr38) (Eq.trans (bnd_of hr57) (if_neg h65)))
  obtain rfl := e.symm.trans hr
  exact ⟨rfl, H152⟩
end Go.Proofs.Ytblpdbnklopchaa
