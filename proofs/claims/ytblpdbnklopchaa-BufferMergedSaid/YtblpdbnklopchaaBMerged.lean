/-
  buffer: the law BufferMerged
-/
import Derived.Test.YtblpdbnklopchaaBm
namespace Go.Proofs.Ytblpdbnklopchaa
open Go.RowKit
set_option linter.unusedVariables false
set_option linter.unusedSectionVars false
set_option linter.unusedSimpArgs false

section
variable {P : Program} {n : Nat} {F : List (Nat × Value)} {w : World} {ty : TypeId} {x y : Operand}
/-- The rest of a division of two that are not below 0. -/
theorem Yl.remN {T yt : TypeId} {a b : Nat} (hx : ev F x = some (.int .i64 ((a : Nat) : Int))) (hy : ev F y = some (.int .i64 ((b : Nat) : Int))) (hb : 0 < b) : Yl P n F w (.binOp .rem T x y yt) ty (.int .i64 ((a % b : Nat) : Int)) :=
  Yl.bin hx hy (fun _ _ => rfl) (by rw [binOp_rem]; unfold Op.intDiv; rw [if_neg (by omega)]; rfl)
theorem mod_lt' (a : Nat) {b : Nat} (hb : 0 < b) : a % b < b := Nat.mod_lt _ hb
end

theorem El47 : Elem Try.prog 47 4 1 1 := elem_of (z := .bool false) Try.underlying47 (by kernel_rfl) rfl (by decide)

def w12_BufferMerged_L0 (l0 : List PairD) (l1 : List EntryD) (l2 : List Bool) (r26 : Bool) : List EntryD → List EntryD → List EntryD → Nat → (List EntryD) × (List EntryD)
  | [], l37, l40, k41 => (l37, l40)
  | x53 :: q42, l37, l40, k41 => bnd (List.getD l2 (k41 % l2.length) default) fun yx62 => if yx62 = true then w12_BufferMerged_L0 l0 l1 l2 r26 q42 (l37 ++ [x53]) l40 (k41 + 1) else w12_BufferMerged_L0 l0 l1 l2 r26 q42 l37 (l40 ++ [x53]) (k41 + 1)

def w12_BufferMerged (l0 : List PairD) (l1 : List EntryD) (l2 : List Bool) : Bool :=
  bnd (w12_live) fun yr26 => if ((l2.length : Nat) : Int) = 0 then yr26 else bnd (w12_BufferMerged_L0 l0 l1 l2 yr26 l1 ([]) ([]) 0) fun sLrbfL => bnd (buffer_Apply l0 l1) fun yr91 => bnd (buffer_Merge sLrbfL.1 sLrbfL.2) fun yr108 => if yr91.2 = 0 then bnd (buffer_Apply l0 yr108.1) fun yr124 => bnd (buffer_Merge sLrbfL.2 sLrbfL.1) fun yr141 => if yr26 = true then if yr108.2 = 0 then if yr124.2 = 0 then if yr141.2 = 0 then bnd (r04_SameMap yr91.1 yr124.1) fun yr161 => if yr161 = true then bnd (r12_Same yr108.1 l1) fun yr172 => if yr172 = true then bnd (r12_Same yr141.1 l1) fun yr183 => yr183 else false else false else false else false else false else false else yr26

set_option maxRecDepth 100000 in
set_option maxHeartbeats 1000000 in
theorem w12_BufferMerged_ok (w : World) (D : Nat → Prop) (A0 : Option Addr) (n0 c0 : Nat) (l0 : List PairD) (A1 : Option Addr) (n1 c1 : Nat) (l1 : List EntryD) (A2 : Option Addr) (n2 c2 : Nat) (l2 : List Bool) (r0 : Bool) (H : Own w D w []) (hx0 : Ro w D fun w' => Rds w' 2 A0 n0 (List.flatMap PairD.cells l0)) (hn0 : n0 = l0.length) (hl0 : l0.length * 32 ≤ 211106232532992) (hx1 : Ro w D fun w' => Rds w' 7 A1 n1 (List.flatMap EntryD.cells l1)) (hn1 : n1 = l1.length) (hl1 : l1.length * 88 ≤ 211106232532992) (hx2 : Ro w D fun w' => Rds w' 1 A2 n2 (List.flatMap eL l2)) (hn2 : n2 = l2.length) (hl2 : l2.length * 1 ≤ 211106232532992) (hh0 : l0.length * 32 ≤ 140737488351232) (hh1 : l1.length * 88 ≤ 140737488351232) (hh2 : l2.length * 1 ≤ 140737488351232) (hr : w12_BufferMerged l0 l1 l2 = r0) :
    Calls Try.prog 6 #[.slice A0 n0 c0, .slice A1 n1 c1, .slice A2 n2 c2] w (Ret fun v w' => v = .bool r0 ∧ Own w D w' []) := by
  subst hn0 hn1 hn2
  refine Calls.body (args := [.slice A0 l0.length c0, .slice A1 l1.length c1, .slice A2 l2.length c2]) Try.func6 rfl rfl rfl ?_
  show Wp _ _ _ [(0, .slice A0 l0.length c0), (1, .slice A1 l1.length c1), (2, .slice A2 l2.length c2)] _ _
  refine Wp.seq (Wp.region (As rfl rfl (WL.nil (Fin.then (Wp.seq (Wp.region ?_))))))
  obtain ⟨r26, hr27⟩ : ∃ q, w12_live = q := ⟨_, rfl⟩
  obtain ⟨D21, HP22, ro23, bk24, rr25⟩ := Own.enter0 H
  refine WL.do rfl (Do.call Try.call7 rfl (w12_live_ok _ _ r26 HP22 hr27) ?_)
  rintro _ w28 ⟨rfl, HQ29⟩
  have H30 := bk24 _ _ HQ29
  refine As rfl rfl (WL.nil (Fin.then (Wp.seq (Wp.seq (Wp.region (Mv rfl rfl (Kn (v := .int .i64 ((l2.length : Nat) : Int)) rfl rfl rfl (fun _ => by kernel_rfl) (Kn (v := .bool (decide (((l2.length : Nat) : Int) = 0))) rfl rfl rfl (fun _ => by kernel_rfl) (WL.nil (Fin.then ?_))))))))))
  by_cases h31 : ((l2.length : Nat) : Int) = 0
  refine Wp.cond1 rfl (decide_eq_true h31) (Wp.seq (Wp.region (Mv rfl rfl (As rfl rfl (WL.nil (Fin.then (Wp.ret (Fin.thenR (Fin.res (res1 rfl rfl) ?_)))))))))
  have H32 := H30.pick [] (by decide) rfl
  have e : w12_BufferMerged l0 l1 l2 = r26 := Eq.trans (bnd_of hr27) (if_pos h31)
  obtain rfl := e.symm.trans hr
  exact ⟨rfl, H32⟩
  refine Wp.cond0 rfl (decide_eq_false h31) (Wp.skip (Fin.then (Wp.seq (Wp.region (As rfl rfl (As rfl rfl (WL.nil (Fin.then (Wp.seq (Wp.seq (Wp.region (Mv rfl rfl (Kn (v := .int .i64 ((l1.length : Nat) : Int)) rfl rfl rfl (fun _ => by kernel_rfl) (Mv rfl rfl (WL.nil (Fin.then (Wp.block ?_)))))))))))))))))
  have H33 : Own w D w28 [row none 0 0 (List.flatMap EntryD.cells ([])) 52 7] := H30.free (row_nil 52 7)
  have H34 : Own w D w28 [row none 0 0 (List.flatMap EntryD.cells ([])) 52 7, row none 0 0 (List.flatMap EntryD.cells ([])) 52 7] := H33.free (row_nil 52 7)
  have H43 := H34.pick [1, 0] (by decide) rfl
  refine Wp.loop (ι := (Option Addr) × Nat × (List EntryD) × (Option Addr) × Nat × (List EntryD) × Nat) (fun i => [(8, .slice i.1 i.2.2.1.length i.2.1), (9, .slice i.2.2.2.1 i.2.2.2.2.2.1.length i.2.2.2.2.1), (27, .int .i64 ((i.2.2.2.2.2.2 : Nat) : Int)), (26, .int .i64 ((l1.length : Nat) : Int)), (25, .slice A1 l1.length c1), (7, .bool r26), (6, .bool false), (0, .slice A0 l0.length c0), (1, .slice A1 l1.length c1), (2, .slice A2 l2.length c2)]) (fun (i : (Option Addr) × Nat × (List EntryD) × (Option Addr) × Nat × (List EntryD) × Nat) w' => Own w D w' [row i.1 i.2.2.1.length i.2.1 (List.flatMap EntryD.cells i.2.2.1) 52 7, row i.2.2.2.1 i.2.2.2.2.2.1.length i.2.2.2.2.1 (List.flatMap EntryD.cells i.2.2.2.2.2.1) 52 7] ∧ (i.2.2.2.2.2.2 ≤ l1.length ∧ i.2.2.1.length ≤ i.2.2.2.2.2.2 ∧ i.2.2.2.2.2.1.length ≤ i.2.2.2.2.2.2 ∧ i.2.2.1.length + i.2.2.2.2.2.1.length ≤ i.2.2.2.2.2.2 ∧ w12_BufferMerged_L0 l0 l1 l2 r26 l1 ([]) ([]) 0 = w12_BufferMerged_L0 l0 l1 l2 r26 (List.drop i.2.2.2.2.2.2 l1) i.2.2.1 i.2.2.2.2.2.1 i.2.2.2.2.2.2)) (fun i => l1.length - i.2.2.2.2.2.2) (none, 0, [], none, 0, [], 0) ⟨rfl, rfl, rfl, rfl, rfl, rfl, rfl, rfl, rfl, rfl, trivial⟩ ⟨H43, (show 0 ≤ l1.length ∧ 0 ≤ 0 ∧ 0 ≤ 0 ∧ 0 + 0 ≤ 0 ∧ w12_BufferMerged_L0 l0 l1 l2 r26 l1 ([]) ([]) 0 = w12_BufferMerged_L0 l0 l1 l2 r26 (List.drop 0 l1) ([]) ([]) 0 from ⟨by omega, by omega, by omega, by first | omega | (simp only [List.length_append, List.length_drop, List.length_cons, List.length_nil] <;> omega), rfl⟩)⟩ ?_
  rintro ⟨A35, c36, l37, A38, c39, l40, k41⟩ w44 ⟨H45, hf46⟩
  show Wp _ _ _ [(8, .slice A35 l37.length c36), (9, .slice A38 l40.length c39), (27, .int .i64 ((k41 : Nat) : Int)), (26, .int .i64 ((l1.length : Nat) : Int)), (25, .slice A1 l1.length c1), (7, .bool r26), (6, .bool false), (0, .slice A0 l0.length c0), (1, .slice A1 l1.length c1), (2, .slice A2 l2.length c2)] _ _
  replace H45 : Own w D w44 [row A35 l37.length c36 (List.flatMap EntryD.cells l37) 52 7, row A38 l40.length c39 (List.flatMap EntryD.cells l40) 52 7] := H45
  replace hf46 : k41 ≤ l1.length ∧ l37.length ≤ k41 ∧ l40.length ≤ k41 ∧ l37.length + l40.length ≤ k41 ∧ w12_BufferMerged_L0 l0 l1 l2 r26 l1 ([]) ([]) 0 = w12_BufferMerged_L0 l0 l1 l2 r26 (List.drop k41 l1) l37 l40 k41 := hf46
  obtain ⟨hi48, hi49, hi50, hi51, hq47⟩ := hf46
  refine Wp.seq (Wp.region (Kn (v := .bool (decide (((k41 : Nat) : Int) < ((l1.length : Nat) : Int)))) rfl rfl rfl (fun _ => by kernel_rfl) (WL.nil (Fin.then (Wp.seq ?_)))))
  by_cases h52 : ((k41 : Nat) : Int) < ((l1.length : Nat) : Int)
  obtain ⟨x53, hx54⟩ := rds_at (ls := l1) (i := k41) EntryD.len (by decide) (H45.ro hx1) (by first | omega | (simp; done) | (simp; omega))
  have hd55 := drop_at hx54
  refine Wp.cond1 rfl (decide_eq_true h52) (Wp.skip (Fin.then (Wp.seq (Wp.block (Wp.seq (Wp.region (Mv rfl rfl (WL.val (v := .pointer (some ⟨ab A1, ao A1 + k41 * 7, none⟩)) rfl (Yl.indexAddr (El22) rfl rfl ((H45.ro hx1).addr (i := k41) (by omega)) (by omega)) (WL.val (v := .agg (EntryD.cells x53).toArray) rfl (Yl.load rfl (Lds.agg (cs := (EntryD.cells x53)) Try.isAgg52 Try.sizeOf52 ((H45.ro hx1).elem EntryD.len hx54 (by decide)))) ?_)))))))))
  refine WL.do rfl (Do.newP (cs := [.int .u64 0, .int .i64 0, .string ⟨List.toArray ([])⟩, .string ⟨List.toArray ([])⟩, .string ⟨List.toArray ([])⟩, .string ⟨List.toArray ([])⟩, .int .i64 0]) (t := 52) H45 rfl rfl (fun _ => by kernel_rfl) ?_)
  intro g56 w57 H58
  refine As rfl rfl ?_
  refine WL.do0 (Do.store (vs := (EntryD.cells x53)) (o := 0) H58 rfl rfl Try.sizeOf52 rfl rfl rfl rfl ?_)
  intro w59 H60
  refine WL.nil (Fin.then (Wp.seq (Wp.region (Mv rfl rfl (Mv rfl rfl (Mv rfl rfl (Kn (v := .int .i64 ((l2.length : Nat) : Int)) rfl rfl rfl (fun _ => by kernel_rfl) ?_)))))))
  have hz61 : k41 % l2.length < l2.length := Nat.mod_lt _ (by omega)
  refine WL.val (v := .int .i64 ((k41 % l2.length : Nat) : Int)) rfl (Yl.remN rfl rfl (by omega)) ?_
  obtain ⟨x62, hx63⟩ := rds_at (ls := l2) (i := k41 % l2.length) eL_len (by decide) (H60.ro hx2) (by first | omega | (simp; done) | (simp; omega))
  refine WL.val (v := .pointer (some ⟨ab A2, ao A2 + (k41 % l2.length) * 1, none⟩)) rfl (Yl.indexAddr (El47) rfl rfl ((H60.ro hx2).addr (i := k41 % l2.length) (by omega)) (by omega)) (WL.val (v := .bool x62) rfl (Yl.load rfl (Lds.one Try.isAgg4 (((H60.ro hx2).elem eL_len hx63 (by decide)).at_ (k := 0) rfl))) (WL.nil (Fin.then ?_)))
  rcases Bool.eq_false_or_eq_true (x62) with h64 | h64
  refine Wp.cond1 rfl h64 (Wp.region (Mv rfl rfl (WL.val (v := .agg (EntryD.cells x53).toArray) rfl (Yl.load rfl (Lds.agg (cs := (EntryD.cells x53)) Try.isAgg52 Try.sizeOf52 ((H60.cls (i := 0) rfl).lit (k := 0) (m := 7) rfl))) ?_)))
  refine WL.do rfl (Do.newRow (cs := (EntryD.cells x53)) (t := 52) (sz := 7) (m := 1) H60 rfl rfl (fun _ => by kernel_rfl) rfl (by decide) ?_)
  intro A65 w66 H67
  replace H67 : Own w D w66 [row A65 1 1 (List.flatMap EntryD.cells ([x53])) 52 7, blk g56 (EntryD.cells x53) 52, row A35 l37.length c36 (List.flatMap EntryD.cells l37) 52 7, row A38 l40.length c39 (List.flatMap EntryD.cells l40) 52 7] := H67
  have H68 := H67.pick [2, 0, 1, 3] (by decide) rfl
  refine WL.do rfl (Do.appendW (k := l37.length) (m := 1) (El22) H68 rfl rfl (src_of Try.underlying22 (H68.rds (i := 1) rfl) (flat_one EntryD.one ([x53]))) rfl (by omega) (s := List.length (l37 ++ [x53])) (by first | omega | (simp only [List.length_append, List.length_cons, List.length_nil] <;> omega)) (List.flatMap_append).symm ?_)
  intro A69 c70 w71 H72
  have hl73 : List.length (l37 ++ [x53]) = l37.length + 1 := by simp only [List.length_append, List.length_cons, List.length_nil]
  refine As rfl rfl (WL.nil (Fin.blockN (Fin.then (Wp.region (WL.val (v := .int .i64 ((k41 + 1 : Nat) : Int)) rfl (Yl.int (e := IntKind.i64.wrap (((k41 : Nat) : Int) + 1)) (Yl.kern rfl rfl (fun _ => by kernel_rfl)) (by rw [IntWalk.i64_in _ (by omega)]; omega)) (Mv rfl rfl (WL.nil ?_)))))))
  have H74 := H72.pick [0, 3] (by decide) rfl
  exact Fin.round (A69, c70, (l37 ++ [x53]), A38, c39, l40, k41 + 1) ⟨rfl, rfl, rfl, rfl, rfl, rfl, rfl, rfl, rfl, rfl, trivial⟩ ⟨H74, (show (k41 + 1) ≤ l1.length ∧ List.length (l37 ++ [x53]) ≤ (k41 + 1) ∧ l40.length ≤ (k41 + 1) ∧ List.length (l37 ++ [x53]) + l40.length ≤ (k41 + 1) ∧ w12_BufferMerged_L0 l0 l1 l2 r26 l1 ([]) ([]) 0 = w12_BufferMerged_L0 l0 l1 l2 r26 (List.drop (k41 + 1) l1) (l37 ++ [x53]) l40 (k41 + 1) from ⟨by omega, by omega, by omega, by first | omega | (simp only [List.length_append, List.length_drop, List.length_cons, List.length_nil] <;> omega), Eq.trans (hq47) (Eq.trans (congrArg (fun q => w12_BufferMerged_L0 l0 l1 l2 r26 q l37 l40 k41) hd55) (Eq.trans (bnd_of (getD_of hx63)) (if_pos h64)))⟩)⟩ (by show l1.length - (k41 + 1) < l1.length - k41; omega)
  refine Wp.cond0 rfl h64 (Wp.region (Mv rfl rfl (WL.val (v := .agg (EntryD.cells x53).toArray) rfl (Yl.load rfl (Lds.agg (cs := (EntryD.cells x53)) Try.isAgg52 Try.sizeOf52 ((H60.cls (i := 0) rfl).lit (k := 0) (m := 7) rfl))) ?_)))
  refine WL.do rfl (Do.newRow (cs := (EntryD.cells x53)) (t := 52) (sz := 7) (m := 1) H60 rfl rfl (fun _ => by kernel_rfl) rfl (by decide) ?_)
  intro A75 w76 H77
  replace H77 : Own w D w76 [row A75 1 1 (List.flatMap EntryD.cells ([x53])) 52 7, blk g56 (EntryD.cells x53) 52, row A35 l37.length c36 (List.flatMap EntryD.cells l37) 52 7, row A38 l40.length c39 (List.flatMap EntryD.cells l40) 52 7] := H77
  have H78 := H77.pick [3, 0, 1, 2] (by decide) rfl
  refine WL.do rfl (Do.appendW (k := l40.length) (m := 1) (El22) H78 rfl rfl (src_of Try.underlying22 (H78.rds (i := 1) rfl) (flat_one EntryD.one ([x53]))) rfl (by omega) (s := List.length (l40 ++ [x53])) (by first | omega | (simp only [List.length_append, List.length_cons, List.length_nil] <;> omega)) (List.flatMap_append).symm ?_)
  intro A79 c80 w81 H82
  have hl83 : List.length (l40 ++ [x53]) = l40.length + 1 := by simp only [List.length_append, List.length_cons, List.length_nil]
  refine As rfl rfl (WL.nil (Fin.blockN (Fin.then (Wp.region (WL.val (v := .int .i64 ((k41 + 1 : Nat) : Int)) rfl (Yl.int (e := IntKind.i64.wrap (((k41 : Nat) : Int) + 1)) (Yl.kern rfl rfl (fun _ => by kernel_rfl)) (by rw [IntWalk.i64_in _ (by omega)]; omega)) (Mv rfl rfl (WL.nil ?_)))))))
  have H84 := H82.pick [3, 0] (by decide) rfl
  exact Fin.round (A35, c36, l37, A79, c80, (l40 ++ [x53]), k41 + 1) ⟨rfl, rfl, rfl, rfl, rfl, rfl, rfl, rfl, rfl, rfl, trivial⟩ ⟨H84, (show (k41 + 1) ≤ l1.length ∧ l37.length ≤ (k41 + 1) ∧ List.length (l40 ++ [x53]) ≤ (k41 + 1) ∧ l37.length + List.length (l40 ++ [x53]) ≤ (k41 + 1) ∧ w12_BufferMerged_L0 l0 l1 l2 r26 l1 ([]) ([]) 0 = w12_BufferMerged_L0 l0 l1 l2 r26 (List.drop (k41 + 1) l1) l37 (l40 ++ [x53]) (k41 + 1) from ⟨by omega, by omega, by omega, by first | omega | (simp only [List.length_append, List.length_drop, List.length_cons, List.length_nil] <;> omega), Eq.trans (hq47) (Eq.trans (congrArg (fun q => w12_BufferMerged_L0 l0 l1 l2 r26 q l37 l40 k41) hd55) (Eq.trans (bnd_of (getD_of hx63)) (ifF h64)))⟩)⟩ (by show l1.length - (k41 + 1) < l1.length - k41; omega)
  refine Wp.cond0 rfl (decide_eq_false h52) (Wp.exit (Fin.thenX ?_))
  have hL85 : w12_BufferMerged_L0 l0 l1 l2 r26 l1 ([]) ([]) 0 = (l37, l40) := Eq.trans (hq47) (Eq.trans (congrArg (fun q => w12_BufferMerged_L0 l0 l1 l2 r26 q l37 l40 k41) (drop_end (ls := l1) (i := k41) (by omega))) rfl)
  refine Fin.thenX (Fin.blockX (Fin.then (Wp.seq (Wp.region (Mv rfl rfl (Mv rfl rfl ?_))))))
  obtain ⟨⟨r91, r92⟩, hr93⟩ : ∃ q : (List PairD) × Int, buffer_Apply l0 l1 = q := ⟨_, rfl⟩
  obtain ⟨D86, HP87, ro88, bk89, rr90⟩ := Own.enter0 H45
  refine WL.do rfl (Do.call Try.call13 rfl (buffer_Apply_ok _ _ A0 l0.length c0 l0 A1 l1.length c1 l1 r91 r92 HP87 (ro88 _ hx0) rfl (by omega) (ro88 _ hx1) rfl (by omega) (by first | omega | (simp only [List.length_cons, List.length_nil]; done) | (simp only [List.length_cons, List.length_nil, List.length_take, List.length_drop]; omega)) hr93) ?_)
  rintro _ w94 ⟨A97, c98, rfl, HQ95, hk99⟩
  have H96 := bk89 _ _ HQ95
  have hb100 := H96.rowC (i := 0) rfl
  replace hk99 : r91.length ≤ l0.length + l1.length := hk99
  refine Mv rfl rfl (Kn (v := .slice A97 r91.length c98) rfl rfl rfl (fun _ => by kernel_rfl) (Kn (v := .int .i64 r92) rfl rfl rfl (fun _ => by kernel_rfl) (As rfl rfl (As rfl rfl (WL.nil (Fin.then (Wp.seq (Wp.region (Mv rfl rfl (Mv rfl rfl ?_))))))))))
  have hb106 := H96.rowC (i := 1) rfl
  have hb107 := H96.rowC (i := 2) rfl
  obtain ⟨⟨r108, r109⟩, hr110⟩ : ∃ q : (List EntryD) × Int, buffer_Merge l37 l40 = q := ⟨_, rfl⟩
  obtain ⟨D101, HP102, ro103, bk104, rr105⟩ := Own.enter0 H96
  refine WL.do rfl (Do.call Try.call20 rfl (buffer_Merge_ok _ _ A35 l37.length c36 l37 A38 l40.length c39 l40 r108 r109 HP102 (rr105 _ 1 _ rfl row_rds) rfl (by omega) (by first | omega | (simp only [List.length_take, List.length_drop]; omega) | exact Nat.le_refl _) (rr105 _ 2 _ rfl row_rds) rfl (by omega) (by first | omega | (simp only [List.length_take, List.length_drop]; omega) | exact Nat.le_refl _) (by first | omega | (simp only [List.length_cons, List.length_nil]; done) | (simp only [List.length_cons, List.length_nil, List.length_take, List.length_drop]; omega)) hr110) ?_)
  rintro _ w111 ⟨A114, c115, rfl, HQ112, hk116⟩
  have H113 := bk104 _ _ HQ112
  have hb117 := H113.rowC (i := 0) rfl
  replace hk116 : r108.length ≤ l37.length + l40.length := hk116
  refine Mv rfl rfl (Kn (v := .slice A114 r108.length c115) rfl rfl rfl (fun _ => by kernel_rfl) (Kn (v := .int .i64 r109) rfl rfl rfl (fun _ => by kernel_rfl) (As rfl rfl (As rfl rfl (WL.nil (Fin.then (Wp.seq (Wp.seq (Wp.region (Mv rfl rfl (WL.val (v := .bool (decide (¬ (r92 = 0)))) rfl (Yl.bool (e := !(decide (r92 = 0))) (Yl.kern rfl rfl (fun _ => by kernel_rfl)) decide_not.symm) (WL.nil (Fin.then ?_)))))))))))))
  by_cases h118 : r92 = 0
  refine Wp.cond0 rfl (decide_eq_false (not_not_intro h118)) (Wp.skip (Fin.then (Wp.seq (Wp.region (Mv rfl rfl (Mv rfl rfl ?_))))))
  obtain ⟨⟨r124, r125⟩, hr126⟩ : ∃ q : (List PairD) × Int, buffer_Apply l0 r108 = q := ⟨_, rfl⟩
  obtain ⟨D119, HP120, ro121, bk122, rr123⟩ := Own.enter0 H113
  refine WL.do rfl (Do.call Try.call13 rfl (buffer_Apply_ok _ _ A0 l0.length c0 l0 A114 r108.length c115 r108 r124 r125 HP120 (ro121 _ hx0) rfl (by omega) (rr123 _ 0 _ rfl row_rds) rfl (by omega) (by first | omega | (simp only [List.length_cons, List.length_nil]; done) | (simp only [List.length_cons, List.length_nil, List.length_take, List.length_drop]; omega)) hr126) ?_)
  rintro _ w127 ⟨A130, c131, rfl, HQ128, hk132⟩
  have H129 := bk122 _ _ HQ128
  have hb133 := H129.rowC (i := 0) rfl
  replace hk132 : r124.length ≤ l0.length + r108.length := hk132
  refine Mv rfl rfl (Kn (v := .slice A130 r124.length c131) rfl rfl rfl (fun _ => by kernel_rfl) (Kn (v := .int .i64 r125) rfl rfl rfl (fun _ => by kernel_rfl) (As rfl rfl (As rfl rfl (WL.nil (Fin.then (Wp.seq (Wp.region (Mv rfl rfl (Mv rfl rfl ?_))))))))))
  have hb139 := H129.rowC (i := 4) rfl
  have hb140 := H129.rowC (i := 3) rfl
  obtain ⟨⟨r141, r142⟩, hr143⟩ : ∃ q : (List EntryD) × Int, buffer_Merge l40 l37 = q := ⟨_, rfl⟩
  obtain ⟨D134, HP135, ro136, bk137, rr138⟩ := Own.enter0 H129
  refine WL.do rfl (Do.call Try.call20 rfl (buffer_Merge_ok _ _ A38 l40.length c39 l40 A35 l37.length c36 l37 r141 r142 HP135 (rr138 _ 4 _ rfl row_rds) rfl (by omega) (by first | omega | (simp only [List.length_take, List.length_drop]; omega) | exact Nat.le_refl _) (rr138 _ 3 _ rfl row_rds) rfl (by omega) (by first | omega | (simp only [List.length_take, List.length_drop]; omega) | exact Nat.le_refl _) (by first | omega | (simp only [List.length_cons, List.length_nil]; done) | (simp only [List.length_cons, List.length_nil, List.length_take, List.length_drop]; omega)) hr143) ?_)
  rintro _ w144 ⟨A147, c148, rfl, HQ145, hk149⟩
  have H146 := bk137 _ _ HQ145
  have hb150 := H146.rowC (i := 0) rfl
  replace hk149 : r141.length ≤ l40.length + l37.length := hk149
  refine Mv rfl rfl (Kn (v := .slice A147 r141.length c148) rfl rfl rfl (fun _ => by kernel_rfl) (Kn (v := .int .i64 r142) rfl rfl rfl (fun _ => by kernel_rfl) (As rfl rfl (As rfl rfl (WL.nil (Fin.then (Wp.seq ?_)))))))
  have H151 := H146.pick [0, 1, 2, 3] (by decide) rfl
  refine Wp.region (Mv rfl rfl (Mv rfl rfl ?_))
  rcases Bool.eq_false_or_eq_true (r26) with h152 | h152
  refine WL.valG (v := .int .i64 r109) rfl rfl h152 rfl (Yl.move rfl) (WL.valG (v := .bool (decide (r109 = 0))) rfl rfl h152 rfl (Yl.kern rfl rfl (fun _ => by kernel_rfl)) (WL.val (v := .bool (decide (r109 = 0))) rfl (Yl.pickT rfl h152 rfl) (Mv rfl rfl ?_)))
  by_cases h153 : r109 = 0
  refine WL.valG (v := .int .i64 r125) rfl rfl (decide_eq_true h153) rfl (Yl.move rfl) (WL.valG (v := .bool (decide (r125 = 0))) rfl rfl (decide_eq_true h153) rfl (Yl.kern rfl rfl (fun _ => by kernel_rfl)) (WL.val (v := .bool (decide (r125 = 0))) rfl (Yl.pickT rfl (decide_eq_true h153) rfl) (Mv rfl rfl ?_)))
  by_cases h154 : r125 = 0
  refine WL.valG (v := .int .i64 r142) rfl rfl (decide_eq_true h154) rfl (Yl.move rfl) (WL.valG (v := .bool (decide (r142 = 0))) rfl rfl (decide_eq_true h154) rfl (Yl.kern rfl rfl (fun _ => by kernel_rfl)) (WL.val (v := .bool (decide (r142 = 0))) rfl (Yl.pickT rfl (decide_eq_true h154) rfl) (Mv rfl rfl ?_)))
  by_cases h155 : r142 = 0
  refine WL.valG (v := .slice A97 r91.length c98) rfl rfl (decide_eq_true h155) rfl (Yl.move rfl) (WL.valG (v := .slice A130 r124.length c131) rfl rfl (decide_eq_true h155) rfl (Yl.move rfl) ?_)
  obtain ⟨r161, hr162⟩ : ∃ q, r04_SameMap r91 r124 = q := ⟨_, rfl⟩
  obtain ⟨D156, HP157, ro158, bk159, rr160⟩ := Own.enter0 H151
  refine WL.doG rfl rfl (decide_eq_true h155) rfl (Do.call Try.call16 rfl (r04_SameMap_ok _ _ A97 r91.length c98 r91 A130 r124.length c131 r124 r161 HP157 (rr160 _ 3 _ rfl row_rds) rfl (by omega) (rr160 _ 1 _ rfl row_rds) rfl (by omega) hr162) ?_)
  rintro _ w163 ⟨rfl, HQ164⟩
  have H165 := bk159 _ _ HQ164
  refine WL.val (v := .bool r161) rfl (Yl.pickT rfl (decide_eq_true h155) rfl) (Mv rfl rfl ?_)
  rcases Bool.eq_false_or_eq_true (r161) with h166 | h166
  refine WL.valG (v := .slice A114 r108.length c115) rfl rfl h166 rfl (Yl.move rfl) (WL.valG (v := .slice A1 l1.length c1) rfl rfl h166 rfl (Yl.move rfl) ?_)
  obtain ⟨r172, hr173⟩ : ∃ q, r12_Same r108 l1 = q := ⟨_, rfl⟩
  obtain ⟨D167, HP168, ro169, bk170, rr171⟩ := Own.enter0 H165
  refine WL.doG rfl rfl h166 rfl (Do.call Try.call21 rfl (r12_Same_ok _ _ A114 r108.length c115 r108 A1 l1.length c1 l1 r172 HP168 (rr171 _ 2 _ rfl row_rds) rfl (by omega) (ro169 _ hx1) rfl (by omega) hr173) ?_)
  rintro _ w174 ⟨rfl, HQ175⟩
  have H176 := bk170 _ _ HQ175
  refine WL.val (v := .bool r172) rfl (Yl.pickT rfl h166 rfl) (Mv rfl rfl ?_)
  rcases Bool.eq_false_or_eq_true (r172) with h177 | h177
  refine WL.valG (v := .slice A147 r141.length c148) rfl rfl h177 rfl (Yl.move rfl) (WL.valG (v := .slice A1 l1.length c1) rfl rfl h177 rfl (Yl.move rfl) ?_)
  obtain ⟨r183, hr184⟩ : ∃ q, r12_Same r141 l1 = q := ⟨_, rfl⟩
  obtain ⟨D178, HP179, ro180, bk181, rr182⟩ := Own.enter0 H176
  refine WL.doG rfl rfl h177 rfl (Do.call Try.call21 rfl (r12_Same_ok _ _ A147 r141.length c148 r141 A1 l1.length c1 l1 r183 HP179 (rr182 _ 0 _ rfl row_rds) rfl (by omega) (ro180 _ hx1) rfl (by omega) hr184) ?_)
  rintro _ w185 ⟨rfl, HQ186⟩
  have H187 := bk181 _ _ HQ186
  refine WL.val (v := .bool r183) rfl (Yl.pickT rfl h177 rfl) (As rfl rfl (WL.nil (Fin.then (Wp.ret (Fin.res (res1 rfl rfl) ?_)))))
  have H188 := H187.pick [] (by decide) rfl
  have e : w12_BufferMerged l0 l1 l2 = r183 := Eq.trans (bnd_of hr27) (Eq.trans (if_neg h31) (Eq.trans (bnd_of hL85) (Eq.trans (bnd_of hr93) (Eq.trans (bnd_of hr110) (Eq.trans (if_pos h118) (Eq.trans (bnd_of hr126) (Eq.trans (bnd_of hr143) (Eq.trans (if_pos h152) (Eq.trans (if_pos h153) (Eq.trans (if_pos h154) (Eq.trans (if_pos h155) (Eq.trans (bnd_of hr162) (Eq.trans (if_pos h166) (Eq.trans (bnd_of hr173) (Eq.trans (if_pos h177) (bnd_of hr184))))))))))))))))
  obtain rfl := e.symm.trans hr
  exact ⟨rfl, H188⟩
  refine Sk rfl rfl h177 rfl (Sk rfl rfl h177 rfl (Sk rfl rfl h177 rfl (WL.val (v := .bool false) rfl (Yl.pickF rfl h177 rfl) (As rfl rfl (WL.nil (Fin.then (Wp.ret (Fin.res (res1 rfl rfl) ?_))))))))
  have H189 := H176.pick [] (by decide) rfl
  have e : w12_BufferMerged l0 l1 l2 = false := Eq.trans (bnd_of hr27) (Eq.trans (if_neg h31) (Eq.trans (bnd_of hL85) (Eq.trans (bnd_of hr93) (Eq.trans (bnd_of hr110) (Eq.trans (if_pos h118) (Eq.trans (bnd_of hr126) (Eq.trans (bnd_of hr143) (Eq.trans (if_pos h152) (Eq.trans (if_pos h153) (Eq.trans (if_pos h154) (Eq.trans (if_pos h155) (Eq.trans (bnd_of hr162) (Eq.trans (if_pos h166) (Eq.trans (bnd_of hr173) (ifF h177)))))))))))))))
  obtain rfl := e.symm.trans hr
  exact ⟨rfl, H189⟩
  refine Sk rfl rfl h166 rfl (Sk rfl rfl h166 rfl (Sk rfl rfl h166 rfl (WL.val (v := .bool false) rfl (Yl.pickF rfl h166 rfl) (Mv rfl rfl (Sk rfl rfl rfl rfl (Sk rfl rfl rfl rfl (Sk rfl rfl rfl rfl (WL.val (v := .bool false) rfl (Yl.pickF rfl rfl rfl) (As rfl rfl (WL.nil (Fin.then (Wp.ret (Fin.res (res1 rfl rfl) ?_)))))))))))))
  have H190 := H165.pick [] (by decide) rfl
  have e : w12_BufferMerged l0 l1 l2 = false := Eq.trans (bnd_of hr27) (Eq.trans (if_neg h31) (Eq.trans (bnd_of hL85) (Eq.trans (bnd_of hr93) (Eq.trans (bnd_of hr110) (Eq.trans (if_pos h118) (Eq.trans (bnd_of hr126) (Eq.trans (bnd_of hr143) (Eq.trans (if_pos h152) (Eq.trans (if_pos h153) (Eq.trans (if_pos h154) (Eq.trans (if_pos h155) (Eq.trans (bnd_of hr162) (ifF h166)))))))))))))
  obtain rfl := e.symm.trans hr
  exact ⟨rfl, H190⟩
  refine Sk rfl rfl (decide_eq_false h155) rfl (Sk rfl rfl (decide_eq_false h155) rfl (Sk rfl rfl (decide_eq_false h155) rfl (WL.val (v := .bool false) rfl (Yl.pickF rfl (decide_eq_false h155) rfl) (Mv rfl rfl (Sk rfl rfl rfl rfl (Sk rfl rfl rfl rfl (Sk rfl rfl rfl rfl (WL.val (v := .bool false) rfl (Yl.pickF rfl rfl rfl) (Mv rfl rfl (Sk rfl rfl rfl rfl (Sk rfl rfl rfl rfl (Sk rfl rfl rfl rfl (WL.val (v := .bool false) rfl (Yl.pickF rfl rfl rfl) (As rfl rfl (WL.nil (Fin.then (Wp.ret (Fin.res (res1 rfl rfl) ?_))))))))))))))))))
  have H191 := H151.pick [] (by decide) rfl
  have e : w12_BufferMerged l0 l1 l2 = false := Eq.trans (bnd_of hr27) (Eq.trans (if_neg h31) (Eq.trans (bnd_of hL85) (Eq.trans (bnd_of hr93) (Eq.trans (bnd_of hr110) (Eq.trans (if_pos h118) (Eq.trans (bnd_of hr126) (Eq.trans (bnd_of hr143) (Eq.trans (if_pos h152) (Eq.trans (if_pos h153) (Eq.trans (if_pos h154) (if_neg h155)))))))))))
  obtain rfl := e.symm.trans hr
  exact ⟨rfl, H191⟩
  refine Sk rfl rfl (decide_eq_false h154) rfl (Sk rfl rfl (decide_eq_false h154) rfl (WL.val (v := .bool false) rfl (Yl.pickF rfl (decide_eq_false h154) rfl) (Mv rfl rfl (Sk rfl rfl rfl rfl (Sk rfl rfl rfl rfl (Sk rfl rfl rfl rfl (WL.val (v := .bool false) rfl (Yl.pickF rfl rfl rfl) (Mv rfl rfl (Sk rfl rfl rfl rfl (Sk rfl rfl rfl rfl (Sk rfl rfl rfl rfl (WL.val (v := .bool false) rfl (Yl.pickF rfl rfl rfl) (Mv rfl rfl (Sk rfl rfl rfl rfl (Sk rfl rfl rfl rfl (Sk rfl rfl rfl rfl (WL.val (v := .bool false) rfl (Yl.pickF rfl rfl rfl) (As rfl rfl (WL.nil (Fin.then (Wp.ret (Fin.res (res1 rfl rfl) ?_))))))))))))))))))))))
  have H192 := H151.pick [] (by decide) rfl
  have e : w12_BufferMerged l0 l1 l2 = false := Eq.trans (bnd_of hr27) (Eq.trans (if_neg h31) (Eq.trans (bnd_of hL85) (Eq.trans (bnd_of hr93) (Eq.trans (bnd_of hr110) (Eq.trans (if_pos h118) (Eq.trans (bnd_of hr126) (Eq.trans (bnd_of hr143) (Eq.trans (if_pos h152) (Eq.trans (if_pos h153) (if_neg h154))))))))))
  obtain rfl := e.symm.trans hr
  exact ⟨rfl, H192⟩
  refine Sk rfl rfl (decide_eq_false h153) rfl (Sk rfl rfl (decide_eq_false h153) rfl (WL.val (v := .bool false) rfl (Yl.pickF rfl (decide_eq_false h153) rfl) (Mv rfl rfl (Sk rfl rfl rfl rfl (Sk rfl rfl rfl rfl (WL.val (v := .bool false) rfl (Yl.pickF rfl rfl rfl) (Mv rfl rfl (Sk rfl rfl rfl rfl (Sk rfl rfl rfl rfl (Sk rfl rfl rfl rfl (WL.val (v := .bool false) rfl (Yl.pickF rfl rfl rfl) (Mv rfl rfl (Sk rfl rfl rfl rfl (Sk rfl rfl rfl rfl (Sk rfl rfl rfl rfl (WL.val (v := .bool false) rfl (Yl.pickF rfl rfl rfl) (Mv rfl rfl (Sk rfl rfl rfl rfl (Sk rfl rfl rfl rfl (Sk rfl rfl rfl rfl (WL.val (v := .bool false) rfl (Yl.pickF rfl rfl rfl) (As rfl rfl (WL.nil (Fin.then (Wp.ret (Fin.res (res1 rfl rfl) ?_))))))))))))))))))))))))))
  have H193 := H151.pick [] (by decide) rfl
  have e : w12_BufferMerged l0 l1 l2 = false := Eq.trans (bnd_of hr27) (Eq.trans (if_neg h31) (Eq.trans (bnd_of hL85) (Eq.trans (bnd_of hr93) (Eq.trans (bnd_of hr110) (Eq.trans (if_pos h118) (Eq.trans (bnd_of hr126) (Eq.trans (bnd_of hr143) (Eq.trans (if_pos h152) (if_neg h153)))))))))
  obtain rfl := e.symm.trans hr
  exact ⟨rfl, H193⟩
  refine Sk rfl rfl h152 rfl (Sk rfl rfl h152 rfl (WL.val (v := .bool false) rfl (Yl.pickF rfl h152 rfl) (Mv rfl rfl (Sk rfl rfl rfl rfl (Sk rfl rfl rfl rfl (WL.val (v := .bool false) rfl (Yl.pickF rfl rfl rfl) (Mv rfl rfl (Sk rfl rfl rfl rfl (Sk rfl rfl rfl rfl (WL.val (v := .bool false) rfl (Yl.pickF rfl rfl rfl) (Mv rfl rfl (Sk rfl rfl rfl rfl (Sk rfl rfl rfl rfl (Sk rfl rfl rfl rfl (WL.val (v := .bool false) rfl (Yl.pickF rfl rfl rfl) (Mv rfl rfl (Sk rfl rfl rfl rfl (Sk rfl rfl rfl rfl (Sk rfl rfl rfl rfl (WL.val (v := .bool false) rfl (Yl.pickF rfl rfl rfl) (Mv rfl rfl (Sk rfl rfl rfl rfl (Sk rfl rfl rfl rfl (Sk rfl rfl rfl rfl (WL.val (v := .bool false) rfl (Yl.pickF rfl rfl rfl) (As rfl rfl (WL.nil (Fin.then (Wp.ret (Fin.res (res1 rfl rfl) ?_))))))))))))))))))))))))))))))
  have H194 := H151.pick [] (by decide) rfl
  have e : w12_BufferMerged l0 l1 l2 = false := Eq.trans (bnd_of hr27) (Eq.trans (if_neg h31) (Eq.trans (bnd_of hL85) (Eq.trans (bnd_of hr93) (Eq.trans (bnd_of hr110) (Eq.trans (if_pos h118) (Eq.trans (bnd_of hr126) (Eq.trans (bnd_of hr143) (ifF h152))))))))
  obtain rfl := e.symm.trans hr
  exact ⟨rfl, H194⟩
  refine Wp.cond1 rfl (decide_eq_true h118) (Wp.seq (Wp.region (Mv rfl rfl (As rfl rfl (WL.nil (Fin.then (Wp.ret (Fin.thenR (Fin.res (res1 rfl rfl) ?_)))))))))
  have H195 := H113.pick [] (by decide) rfl
  have e : w12_BufferMerged l0 l1 l2 = r26 := Eq.trans (bnd_of hr27) (Eq.trans (if_neg h31) (Eq.trans (bnd_of hL85) (Eq.trans (bnd_of hr93) (Eq.trans (bnd_of hr110) (if_neg h118)))))
  obtain rfl := e.symm.trans hr
  exact ⟨rfl, H195⟩
end Go.Proofs.Ytblpdbnklopchaa
