/-
  net: NetGoes.
-/
import Derived.Test.YtbflloaamnphkaaNe
import Derived.Test.YtbflloaamnphkaaNc
namespace Go.Proofs.Ytbflloaamnphkaa
open Go.RowKit
set_option linter.unusedVariables false
set_option linter.unusedSectionVars false

theorem El22 : Elem Try.prog 22 31 6 56 := elem_of (z := .agg #[.int .i64 0, .int .i64 0, .int .i64 0, .int .i64 0, .string ⟨List.toArray ([])⟩, .bool false]) Try.underlying22 (by kernel_rfl) rfl (by decide)

theorem RTake_any (g : Nat) (ls : List Lt) (i : Int) (w : World) (D : Nat → Prop) (H : Own w D w [rnet g (keys ls)]) (hf : Fine ls) : Calls Try.prog 10 #[.pointer (some ⟨g, 0, none⟩), .int .i64 i] w (Ret fun v w' => (∃ (m : Nat) (l : Lt), i = (m : Int) ∧ ls[m]? = some l ∧ v = .tuple #[.agg (kC (l.fr, l.to, l.bs)).toArray, .int .i64 0] ∧ Own w D w' [rnet g (keys (List.eraseIdx ls m))]) ∨ (¬ (0 ≤ i ∧ i < ((List.length ls : Nat) : Int)) ∧ v = .tuple #[.agg (kC (0, 0, [])).toArray, .int .i64 5] ∧ Own w D w' [rnet g (keys ls)])) := by
  by_cases hi : 0 ≤ i ∧ i < ((List.length ls : Nat) : Int)
  · obtain ⟨m, hm, hlt⟩ := in_range hi
    obtain ⟨l, hl⟩ := at_of hlt
    exact Ret.mono (RTake_k g ls i w D H hf m l hm hl) fun v w' r => .inl ⟨m, l, hm, hl, r⟩
  · exact Ret.mono (RTake_x g ls i w D H hf hi) fun v w' r => .inr ⟨hi, r⟩
theorem Drop_k (h : Nat) (ls : List Lt) (i : Int) (w : World) (D : Nat → Prop) (H : Own w D w [net h ls]) (hf : Fine ls) (m : Nat) (l : Lt) (hi : i = (m : Int)) (hl : ls[m]? = some l) : Calls Try.prog 11 #[.pointer (some ⟨h, 0, none⟩), .int .i64 i] w (Ret fun v w' => v = .int .i64 0 ∧ Own w D w' [net h (List.eraseIdx ls m)]) := by
  subst hi; exact Drop_ok h ls m w D H l hl (by have := hf.1; omega)
theorem Drop_x (h : Nat) (ls : List Lt) (i : Int) (w : World) (D : Nat → Prop) (H : Own w D w [net h ls]) (hf : Fine ls) (hi : ¬ (0 ≤ i ∧ i < ((List.length ls : Nat) : Int))) : Calls Try.prog 11 #[.pointer (some ⟨h, 0, none⟩), .int .i64 i] w (Ret fun v w' => v = .int .i64 5 ∧ Own w D w' [net h ls]) :=
  Drop_none h ls i w D H hi

structure OpD where
  xDo : Int
  xFrom : Int
  xTo : Int
  xN : Int
  xBytes : List UInt8
  xClone : Bool

def OpD.cells (x : OpD) : List Value := [.int .i64 x.xDo, .int .i64 x.xFrom, .int .i64 x.xTo, .int .i64 x.xN, .string ⟨List.toArray x.xBytes⟩, .bool x.xClone]

theorem OpD.len : ∀ x, (OpD.cells x).length = 6 := fun _ => rfl

theorem OpD.one : ∀ x, ∀ u ∈ OpD.cells x, u.oneCell' = true := fun x u hu => by
  simp only [OpD.cells, List.mem_cons, List.not_mem_nil, or_false] at hu
  rcases hu with rfl | rfl | rfl | rfl | rfl | rfl <;> rfl

def OpD.Ok (w : World) (x : OpD) : Prop := ((-9223372036854775808) ≤ x.xDo ∧ x.xDo ≤ 9223372036854775807) ∧ ((-9223372036854775808) ≤ x.xFrom ∧ x.xFrom ≤ 9223372036854775807) ∧ ((-9223372036854775808) ≤ x.xTo ∧ x.xTo ≤ 9223372036854775807) ∧ ((-9223372036854775808) ≤ x.xN ∧ x.xN ≤ 9223372036854775807) ∧ (List.length x.xBytes ≤ 140737488351232) ∧ (True)

theorem opens_OpD (w : World) : Opens Try.prog w 31 6 OpD.cells (OpD.Ok w) :=
  (opens_struct (sz := 6) Try.underlying31 (by kernel_rfl) (OpensF.cons (i := 0) (off := 0) (s := 1) rfl rfl (opens_int (k := .i64) (lo := -9223372036854775808) (hi := 9223372036854775807) Try.underlying3 (by kernel_rfl) (by decide) (by decide)) (OpensF.cons (i := 1) (off := 1) (s := 1) rfl rfl (opens_int (k := .i64) (lo := -9223372036854775808) (hi := 9223372036854775807) Try.underlying3 (by kernel_rfl) (by decide) (by decide)) (OpensF.cons (i := 2) (off := 2) (s := 1) rfl rfl (opens_int (k := .i64) (lo := -9223372036854775808) (hi := 9223372036854775807) Try.underlying3 (by kernel_rfl) (by decide) (by decide)) (OpensF.cons (i := 3) (off := 3) (s := 1) rfl rfl (opens_int (k := .i64) (lo := -9223372036854775808) (hi := 9223372036854775807) Try.underlying3 (by kernel_rfl) (by decide) (by decide)) (OpensF.cons (i := 4) (off := 4) (s := 1) rfl rfl (opens_string Try.underlying9 (by kernel_rfl)) (OpensF.cons (i := 5) (off := 5) (s := 1) rfl rfl (opens_bool Try.underlying4 (by kernel_rfl)) OpensF.nil))))))).map (fun p => ⟨p.1, p.2.1, p.2.2.1, p.2.2.2.1, p.2.2.2.2.1, p.2.2.2.2.2.1⟩) OpD.len (fun _ => rfl) fun _ h => ⟨h.1, h.2.1, h.2.2.1, h.2.2.2.1, h.2.2.2.2.1, h.2.2.2.2.2.1⟩

set_option maxRecDepth 100000 in
set_option maxHeartbeats 1000000 in
theorem goes_ok (w : World) (l : Sv OpD) (hl : SvOk w 6 56 OpD.cells (OpD.Ok w) l) :
    Calls Try.prog 3 #[.slice l.A (List.length l.ls) l.c] w (Ret fun v w' => v = .bool true ∧ Own w (fun _ : Nat => False) w' []) := by
  have rol : Ro w (fun _ : Nat => False) fun w' => Rds w' 6 l.A (List.length l.ls) (List.flatMap OpD.cells l.ls) := Rds.ro hl.2.2.1 (by decide)
  have lel := hl.1
  have lcl := hl.2.1
  have H : Own w (fun _ : Nat => False) w [] := Own.start w
  refine Calls.body (args := [.slice l.A (List.length l.ls) l.c]) Try.func3 rfl rfl rfl ?_
  show Wp _ _ _ [(0, .slice l.A (List.length l.ls) l.c)] _ _
  refine Wp.seq ?_
  refine Wp.region ?_
  refine WL.val (v := .bool false) rfl (Yl.assign rfl) ?_
  refine WL.nil ?_
  refine Fin.then ?_
  refine Wp.seq ?_
  refine Wp.region ?_
  obtain ⟨D1, HP2, ro3, bk4, rr5⟩ := Own.enter (L1 := []) (L2 := []) H
  refine WL.do rfl (Do.call Try.call5 rfl (live_ok _ _ HP2) ?_)
  rintro _ w6 ⟨rfl, HQ7⟩
  have H8 : Own w (fun _ : Nat => False) w6 [] := bk4 _ _ HQ7
  refine WL.val (v := .bool true) rfl (Yl.assign rfl) ?_
  refine WL.nil ?_
  refine Fin.then ?_
  refine Wp.seq ?_
  refine Wp.region ?_
  obtain ⟨D9, HP10, ro11, bk12, rr13⟩ := Own.enter (L1 := []) (L2 := []) H8
  refine WL.do rfl (Do.call Try.call6 rfl (New_ok _ _ HP10) ?_)
  rintro _ w14 ⟨h16, rfl, HQ15⟩
  have H17 : Own w (fun _ : Nat => False) w14 [net h16 ([])] := bk12 _ _ HQ15
  refine WL.val (v := .pointer (some ⟨h16, 0, none⟩)) rfl (Yl.assign rfl) ?_
  refine WL.nil ?_
  refine Fin.then ?_
  refine Wp.seq ?_
  refine Wp.region ?_
  refine WL.val (v := .agg #[.slice none 0 0]) rfl (Yl.kern rfl rfl (fun _ => by kernel_rfl)) ?_
  refine WL.do rfl (Do.newP (cs := [.slice none 0 0]) (t := 29) H17 rfl rfl (fun _ => by kernel_rfl) ?_)
  intro g18 w19 H20
  replace H20 : Own w (fun _ : Nat => False) w19 [blk g18 [.slice none 0 0] 29, net h16 ([])] := H20
  refine WL.val (v := .pointer (some ⟨g18, 0, none⟩)) rfl (Yl.assign rfl) ?_
  refine WL.nil ?_
  refine Fin.then ?_
  refine Wp.seq ?_
  refine Wp.seq ?_
  refine Wp.region ?_
  have H21 : Own w (fun _ : Nat => False) w19 [blk g18 [.slice none 0 0] 29, row none 0 0 (List.flatMap kC (keys [])) 41 3, net h16 ([])] := (H20.free (row_nil 41 3)).pick [1, 0, 2] (by decide) rfl
  have H22 : Own w (fun _ : Nat => False) w19 [rnet g18 (keys []), net h16 ([])] := rnet.fold2 (n := 0) rfl H21
  refine WL.val (v := .pointer (some ⟨h16, 0, none⟩)) rfl (Yl.move rfl) ?_
  refine WL.val (v := .bool false) rfl (Yl.kern rfl rfl (fun _ => by kernel_rfl)) ?_
  refine WL.val (v := .bool false) rfl (Yl.move rfl) ?_
  refine WL.valG (v := .slice l.A (List.length l.ls) l.c) rfl rfl rfl rfl (Yl.move rfl) ?_
  refine WL.valG (v := .int .i64 ((List.length l.ls : Nat) : Int)) rfl rfl rfl rfl (Yl.kern rfl rfl (fun _ => by kernel_rfl)) ?_
  refine WL.valG (v := .bool (decide (((List.length l.ls : Nat) : Int) > 300))) rfl rfl rfl rfl (Yl.kern rfl rfl (fun _ => by kernel_rfl)) ?_
  refine WL.val (v := .bool (decide (((List.length l.ls : Nat) : Int) > 300))) rfl (Yl.pickF rfl rfl rfl) ?_
  refine WL.nil ?_
  refine Fin.then ?_
  by_cases h23 : ((List.length l.ls : Nat) : Int) > 300
  · skip
    refine Wp.cond1 rfl (decide_eq_true h23) ?_
    refine Wp.seq ?_
    refine Wp.region ?_
    refine WL.val (v := .bool true) rfl (Yl.move rfl) ?_
    refine WL.val (v := .bool true) rfl (Yl.move rfl) ?_
    refine WL.valG (v := .pointer (some ⟨h16, 0, none⟩)) rfl rfl rfl rfl (Yl.move rfl) ?_
    refine WL.valG (v := .bool true) rfl rfl rfl rfl (Yl.kern rfl rfl (fun _ => by kernel_rfl)) ?_
    refine WL.val (v := .bool true) rfl (Yl.pickT rfl rfl rfl) ?_
    refine WL.val (v := .bool true) rfl (Yl.assign rfl) ?_
    refine WL.nil ?_
    refine Fin.then ?_
    refine Wp.ret ?_
    refine Fin.thenR ?_
    refine Fin.res (res1 rfl rfl) ?_
    have H24 : Own w (fun _ : Nat => False) w19 [] := H22.pick [] (by decide) rfl
    exact ⟨rfl, H24⟩
  · skip
    refine Wp.cond0 rfl (decide_eq_false h23) ?_
    refine Wp.skip ?_
    refine Fin.then ?_
    refine Wp.seq ?_
    refine Wp.seq ?_
    refine Wp.region ?_
    refine WL.val (v := .slice l.A (List.length l.ls) l.c) rfl (Yl.move rfl) ?_
    refine WL.val (v := .int .i64 ((List.length l.ls : Nat) : Int)) rfl (Yl.kern rfl rfl (fun _ => by kernel_rfl)) ?_
    refine WL.val (v := .int .i64 0) rfl (Yl.move rfl) ?_
    refine WL.nil ?_
    refine Fin.then ?_
    refine Wp.block ?_
    have H25 : Own w (fun _ : Nat => False) w19 [net h16 ([]), rnet g18 (keys [])] := H22.pick [1, 0] (by decide) rfl
    refine Wp.loop (ι := Nat × Nat × (List Lt)) (fun i => [(36, .int .i64 ((i.1 : Nat) : Int)), (4, .pointer (some ⟨i.2.1, 0, none⟩)), (35, .int .i64 ((List.length l.ls : Nat) : Int)), (34, .slice l.A (List.length l.ls) l.c), (28, .bool (decide (((List.length l.ls : Nat) : Int) > 300))), (27, .bool (decide (((List.length l.ls : Nat) : Int) > 300))), (26, .int .i64 ((List.length l.ls : Nat) : Int)), (25, .slice l.A (List.length l.ls) l.c), (24, .bool false), (23, .bool false), (22, .pointer (some ⟨h16, 0, none⟩)), (5, .pointer (some ⟨g18, 0, none⟩)), (21, .pointer (some ⟨g18, 0, none⟩)), (20, .agg #[.slice none 0 0]), (19, .pointer (some ⟨h16, 0, none⟩)), (3, .bool true), (18, .bool true), (0, .slice l.A (List.length l.ls) l.c)]) (fun (i : Nat × Nat × (List Lt)) w' => Own w (fun _ : Nat => False) w' [net i.2.1 i.2.2, rnet g18 (keys i.2.2)] ∧ (i.1 ≤ List.length l.ls ∧ Fine i.2.2)) (fun i => List.length l.ls - i.1) (0, h16, []) ⟨rfl, rfl, rfl, rfl, rfl, rfl, rfl, rfl, rfl, rfl, rfl, rfl, rfl, rfl, rfl, rfl, rfl, rfl, trivial⟩ ⟨H25, (show 0 ≤ List.length l.ls ∧ Fine ([]) from ⟨by omega, Fine.nil⟩)⟩ ?_
    rintro ⟨k, h, ls⟩ w26 ⟨H27, hf28⟩
    show Wp _ _ _ [(36, .int .i64 ((k : Nat) : Int)), (4, .pointer (some ⟨h, 0, none⟩)), (35, .int .i64 ((List.length l.ls : Nat) : Int)), (34, .slice l.A (List.length l.ls) l.c), (28, .bool (decide (((List.length l.ls : Nat) : Int) > 300))), (27, .bool (decide (((List.length l.ls : Nat) : Int) > 300))), (26, .int .i64 ((List.length l.ls : Nat) : Int)), (25, .slice l.A (List.length l.ls) l.c), (24, .bool false), (23, .bool false), (22, .pointer (some ⟨h16, 0, none⟩)), (5, .pointer (some ⟨g18, 0, none⟩)), (21, .pointer (some ⟨g18, 0, none⟩)), (20, .agg #[.slice none 0 0]), (19, .pointer (some ⟨h16, 0, none⟩)), (3, .bool true), (18, .bool true), (0, .slice l.A (List.length l.ls) l.c)] _ _
    replace H27 : Own w (fun _ : Nat => False) w26 [net h ls, rnet g18 (keys ls)] := H27
    replace hf28 : k ≤ List.length l.ls ∧ Fine ls := hf28
    obtain ⟨hk0, hf⟩ := hf28
    have hle := hf.1
    refine Wp.seq ?_
    refine Wp.region ?_
    refine WL.val (v := .bool (decide (((k : Nat) : Int) < ((List.length l.ls : Nat) : Int)))) rfl (Yl.kern rfl rfl (fun _ => by kernel_rfl)) ?_
    refine WL.nil ?_
    refine Fin.then ?_
    refine Wp.seq ?_
    by_cases h29 : ((k : Nat) : Int) < ((List.length l.ls : Nat) : Int)
    · skip
      refine Wp.cond1 rfl (decide_eq_true h29) ?_
      refine Wp.skip ?_
      refine Fin.then ?_
      refine Wp.seq ?_
      refine Wp.block ?_
      refine Wp.seq ?_
      refine Wp.region ?_
      obtain ⟨x30, hx31⟩ := rds_at (ls := l.ls) (i := k) OpD.len (by decide) (H27.ro rol) (by first | omega | (simp; done) | (simp; omega))
      have ok32 := (hl.2.2.2 _ (List.mem_of_getElem? hx31))
      have ok33 := ok32.1
      have ok34 := ok32.2.1
      have ok35 := ok32.2.2.1
      have ok36 := ok32.2.2.2.1
      have ok37 := ok32.2.2.2.2.1
      refine WL.val (v := .pointer (some ⟨ab l.A, ao l.A + k * 6, none⟩)) rfl (Yl.indexAddr (El22) rfl rfl ((H27.ro rol).addr (i := k) (by omega)) (by omega)) ?_
      refine WL.val (v := .agg #[.int .i64 x30.xDo, .int .i64 x30.xFrom, .int .i64 x30.xTo, .int .i64 x30.xN, .string ⟨List.toArray x30.xBytes⟩, .bool x30.xClone]) rfl (Yl.load rfl (Lds.agg (cs := [.int .i64 x30.xDo, .int .i64 x30.xFrom, .int .i64 x30.xTo, .int .i64 x30.xN, .string ⟨List.toArray x30.xBytes⟩, .bool x30.xClone]) Try.isAgg31 Try.sizeOf31 ((H27.ro rol).elem OpD.len hx31 (by decide)))) ?_
      refine WL.do rfl (Do.newP (cs := [.int .i64 0, .int .i64 0, .int .i64 0, .int .i64 0, .string ⟨List.toArray ([])⟩, .bool false]) (t := 31) H27 rfl rfl (fun _ => by kernel_rfl) ?_)
      intro g38 w39 H40
      replace H40 : Own w (fun _ : Nat => False) w39 [blk g38 [.int .i64 0, .int .i64 0, .int .i64 0, .int .i64 0, .string ⟨List.toArray ([])⟩, .bool false] 31, net h ls, rnet g18 (keys ls)] := H40
      refine WL.do0 (Do.store (vs := [.int .i64 x30.xDo, .int .i64 x30.xFrom, .int .i64 x30.xTo, .int .i64 x30.xN, .string ⟨List.toArray x30.xBytes⟩, .bool x30.xClone]) (o := 0) H40 rfl rfl Try.sizeOf31 rfl rfl rfl rfl ?_)
      intro w41 H42
      replace H42 : Own w (fun _ : Nat => False) w41 [blk g38 [.int .i64 x30.xDo, .int .i64 x30.xFrom, .int .i64 x30.xTo, .int .i64 x30.xN, .string ⟨List.toArray x30.xBytes⟩, .bool x30.xClone] 31, net h ls, rnet g18 (keys ls)] := H42
      refine WL.nil ?_
      refine Fin.then ?_
      refine Wp.seq ?_
      refine Wp.seq ?_
      refine Wp.region ?_
      refine WL.val (v := .pointer (some ⟨g38, 4, none⟩)) rfl (Yl.kern rfl rfl (fun _ => by kernel_rfl)) ?_
      refine WL.val (v := .string ⟨List.toArray x30.xBytes⟩) rfl (Yl.load rfl (Lds.one Try.isAgg9 (Cls.of (H42.cls (i := 0) rfl) rfl))) ?_
      refine WL.val (v := .int .i64 ((List.length x30.xBytes : Nat) : Int)) rfl (Yl.kern rfl rfl (fun _ => by kernel_rfl)) ?_
      refine WL.val (v := .bool (decide (((List.length x30.xBytes : Nat) : Int) > 10000))) rfl (Yl.kern rfl rfl (fun _ => by kernel_rfl)) ?_
      refine WL.nil ?_
      refine Fin.then ?_
      by_cases h43 : ((List.length x30.xBytes : Nat) : Int) > 10000
      · skip
        refine Wp.cond1 rfl (decide_eq_true h43) ?_
        refine Wp.exit ?_
        refine Fin.thenX ?_
        refine Fin.blockX ?_
        refine Fin.then ?_
        refine Wp.region ?_
        refine WL.val (v := .int .i64 ((k + 1 : Nat) : Int)) rfl (Yl.int (e := IntKind.i64.wrap (((k : Nat) : Int) + 1)) (Yl.kern rfl rfl (fun _ => by kernel_rfl)) (by rw [IntWalk.i64_in _ (by omega)]; omega)) ?_
        refine WL.val (v := .int .i64 ((k + 1 : Nat) : Int)) rfl (Yl.move rfl) ?_
        refine WL.nil ?_
        have H44 : Own w (fun _ : Nat => False) w41 [net h ls, rnet g18 (keys ls)] := H42.pick [1, 2] (by decide) rfl
        exact Fin.round (k + 1, h, ls) ⟨rfl, rfl, rfl, rfl, rfl, rfl, rfl, rfl, rfl, rfl, rfl, rfl, rfl, rfl, rfl, rfl, rfl, rfl, trivial⟩ ⟨H44, (show (k + 1) ≤ List.length l.ls ∧ Fine ls from ⟨by omega, hf⟩)⟩ (by show List.length l.ls - (k + 1) < List.length l.ls - k; omega)
      · skip
        refine Wp.cond0 rfl (decide_eq_false h43) ?_
        refine Wp.skip ?_
        refine Fin.then ?_
        refine Wp.seq ?_
        refine Wp.region ?_
        refine WL.val (v := .pointer (some ⟨g38, 4, none⟩)) rfl (Yl.kern rfl rfl (fun _ => by kernel_rfl)) ?_
        refine WL.val (v := .string ⟨List.toArray x30.xBytes⟩) rfl (Yl.load rfl (Lds.one Try.isAgg9 (Cls.of (H42.cls (i := 0) rfl) rfl))) ?_
        refine WL.do rfl (Do.toBytesE (l := x30.xBytes) Try.underlying9 Try.underlying32 Try.underlying5 H42 rfl (by unfold maxLen; omega) ?_)
        intro A45 c46 w47 H48
        replace H48 : Own w (fun _ : Nat => False) w47 [row A45 (List.length x30.xBytes) c46 (List.flatMap eB x30.xBytes) 5 1, blk g38 [.int .i64 x30.xDo, .int .i64 x30.xFrom, .int .i64 x30.xTo, .int .i64 x30.xN, .string ⟨List.toArray x30.xBytes⟩, .bool x30.xClone] 31, net h ls, rnet g18 (keys ls)] := H48
        refine WL.val (v := .slice A45 (List.length x30.xBytes) c46) rfl (Yl.assign rfl) ?_
        refine WL.nil ?_
        refine Fin.then ?_
        refine Wp.seq ?_
        refine Wp.region ?_
        refine WL.val (v := .bool true) rfl (Yl.assign rfl) ?_
        refine WL.nil ?_
        refine Fin.then ?_
        refine Wp.seq ?_
        refine Wp.seq ?_
        refine Wp.region ?_
        refine WL.val (v := .pointer (some ⟨g38, 0, none⟩)) rfl (Yl.kern rfl rfl (fun _ => by kernel_rfl)) ?_
        refine WL.val (v := .int .i64 x30.xDo) rfl (Yl.load rfl (Lds.one Try.isAgg3 (Cls.of (H48.cls (i := 1) rfl) rfl))) ?_
        refine WL.nil ?_
        refine Fin.then ?_
        refine Wp.joinT (ι := (List Lt)) (fun i => [(9, .bool true), (48, .int .i64 x30.xDo), (47, .pointer (some ⟨g38, 0, none⟩)), (8, .slice A45 (List.length x30.xBytes) c46), (46, .slice A45 (List.length x30.xBytes) c46), (45, .string ⟨List.toArray x30.xBytes⟩), (44, .pointer (some ⟨g38, 4, none⟩)), (43, .bool (decide (((List.length x30.xBytes : Nat) : Int) > 10000))), (42, .int .i64 ((List.length x30.xBytes : Nat) : Int)), (41, .string ⟨List.toArray x30.xBytes⟩), (40, .pointer (some ⟨g38, 4, none⟩)), (7, .pointer (some ⟨g38, 0, none⟩)), (39, .agg #[.int .i64 x30.xDo, .int .i64 x30.xFrom, .int .i64 x30.xTo, .int .i64 x30.xN, .string ⟨List.toArray x30.xBytes⟩, .bool x30.xClone]), (38, .pointer (some ⟨ab l.A, ao l.A + k * 6, none⟩)), (37, .bool (decide (((k : Nat) : Int) < ((List.length l.ls : Nat) : Int)))), (36, .int .i64 ((k : Nat) : Int)), (4, .pointer (some ⟨h, 0, none⟩)), (35, .int .i64 ((List.length l.ls : Nat) : Int)), (34, .slice l.A (List.length l.ls) l.c), (28, .bool (decide (((List.length l.ls : Nat) : Int) > 300))), (27, .bool (decide (((List.length l.ls : Nat) : Int) > 300))), (26, .int .i64 ((List.length l.ls : Nat) : Int)), (25, .slice l.A (List.length l.ls) l.c), (24, .bool false), (23, .bool false), (22, .pointer (some ⟨h16, 0, none⟩)), (5, .pointer (some ⟨g18, 0, none⟩)), (21, .pointer (some ⟨g18, 0, none⟩)), (20, .agg #[.slice none 0 0]), (19, .pointer (some ⟨h16, 0, none⟩)), (3, .bool true), (18, .bool true), (0, .slice l.A (List.length l.ls) l.c)]) (fun (i : (List Lt)) w' => Own w (fun _ : Nat => False) w' [net h i, rnet g18 (keys i), row A45 (List.length x30.xBytes) c46 (List.flatMap eB x30.xBytes) 5 1, blk g38 [.int .i64 x30.xDo, .int .i64 x30.xFrom, .int .i64 x30.xTo, .int .i64 x30.xN, .string ⟨List.toArray x30.xBytes⟩, .bool x30.xClone] 31] ∧ (Fine i)) ?_ ?_
        · skip
          refine Wp.block ?_
          refine Wp.seq ?_
          refine Wp.region ?_
          refine WL.val (v := .bool (decide (x30.xDo = 0))) rfl (Yl.kern rfl rfl (fun _ => by kernel_rfl)) ?_
          refine WL.val (v := .bool (decide (x30.xDo = 0))) rfl (Yl.assign rfl) ?_
          refine WL.nil ?_
          refine Fin.then ?_
          by_cases h49 : x30.xDo = 0
          · skip
            refine Wp.cond1 rfl (decide_eq_true h49) ?_
            have H50 : Own w (fun _ : Nat => False) w47 [blk g38 [.int .i64 x30.xDo, .int .i64 x30.xFrom, .int .i64 x30.xTo, .int .i64 x30.xN, .string ⟨List.toArray x30.xBytes⟩, .bool x30.xClone] 31, row A45 (List.length x30.xBytes) c46 (List.flatMap eB x30.xBytes) 5 1, net h ls, rnet g18 (keys ls)] := H48.pick [1, 0, 2, 3] (by decide) rfl
            have H52 := H50.drew
            refine Wp.drawn (Keep [] (fun W => ∃ L', Own w (fun _ : Nat => False) W ([blk g38 [.int .i64 x30.xDo, .int .i64 x30.xFrom, .int .i64 x30.xTo, .int .i64 x30.xN, .string ⟨List.toArray x30.xBytes⟩, .bool x30.xClone] 31, row A45 (List.length x30.xBytes) c46 (List.flatMap eB x30.xBytes) 5 1] ++ L'))) (by kernel_rfl) (.inr ⟨_, H52⟩) ?_
            revert H52
            generalize World.drew w47 = w51
            intro H52
            replace H52 : Own w (fun _ : Nat => False) w51 [blk g38 [.int .i64 x30.xDo, .int .i64 x30.xFrom, .int .i64 x30.xTo, .int .i64 x30.xN, .string ⟨List.toArray x30.xBytes⟩, .bool x30.xClone] 31, row A45 (List.length x30.xBytes) c46 (List.flatMap eB x30.xBytes) 5 1, net h ls, rnet g18 (keys ls)] := H52
            show GW _ _ _ _ 17 #[false, false, false, false, false, false, false, false, false, false, false, false, false, false, false, false, false] _ _ _
            refine GW.take (v := .pointer (some ⟨h, 0, none⟩)) (i := 0) (l' := #[true, false, false, false, false, false, false, false, false, false, false, false, false, false, false, false, false]) (rs := []) rfl (by kernel_rfl) rfl (NoP.block (NoP.then (NoP.block (NoP.then (NoP.then (NoP.block (NoP.then NoP.base))))))) (by kernel_rfl) (by kernel_rfl) (by kernel_rfl) (by kernel_rfl) (fun _ _ => Yl.move rfl) ?_
            refine GW.take (v := .pointer (some ⟨g38, 1, none⟩)) (i := 1) (l' := #[true, true, false, false, false, false, false, false, false, false, false, false, false, false, false, false, false]) (rs := []) rfl (by kernel_rfl) rfl (NoP.block (NoP.then (NoP.block (NoP.then (NoP.then (NoP.block (NoP.then NoP.base))))))) (by kernel_rfl) (by kernel_rfl) (by kernel_rfl) (by kernel_rfl) (fun _ _ => Yl.kern rfl rfl (fun _ => by kernel_rfl)) ?_
            refine GW.take (v := .int .i64 x30.xFrom) (i := 2) (l' := #[true, true, true, false, false, false, false, false, false, false, false, false, false, false, false, false, false]) (rs := []) rfl (by kernel_rfl) rfl (NoP.block (NoP.then (NoP.block (NoP.then (NoP.then (NoP.block (NoP.then NoP.base))))))) (by kernel_rfl) (by kernel_rfl) (by kernel_rfl) (by kernel_rfl) (fun _ ⟨_, H9⟩ => Yl.load rfl (Lds.one Try.isAgg3 (Cls.of (H9.cls (i := 0) rfl) rfl))) ?_
            refine GW.take (v := .pointer (some ⟨g38, 2, none⟩)) (i := 3) (l' := #[true, true, true, true, false, false, false, false, false, false, false, false, false, false, false, false, false]) (rs := []) rfl (by kernel_rfl) rfl (NoP.block (NoP.then (NoP.block (NoP.then (NoP.then (NoP.block (NoP.then NoP.base))))))) (by kernel_rfl) (by kernel_rfl) (by kernel_rfl) (by kernel_rfl) (fun _ _ => Yl.kern rfl rfl (fun _ => by kernel_rfl)) ?_
            refine GW.take (v := .int .i64 x30.xTo) (i := 4) (l' := #[true, true, true, true, true, false, false, false, false, false, false, false, false, false, false, false, false]) (rs := []) rfl (by kernel_rfl) rfl (NoP.block (NoP.then (NoP.block (NoP.then (NoP.then (NoP.block (NoP.then NoP.base))))))) (by kernel_rfl) (by kernel_rfl) (by kernel_rfl) (by kernel_rfl) (fun _ ⟨_, H9⟩ => Yl.load rfl (Lds.one Try.isAgg3 (Cls.of (H9.cls (i := 0) rfl) rfl))) ?_
            refine GW.take (v := .slice A45 (List.length x30.xBytes) c46) (i := 5) (l' := #[true, true, true, true, true, true, false, false, false, false, false, false, false, false, false, false, false]) (rs := []) rfl (by kernel_rfl) rfl (NoP.block (NoP.then (NoP.block (NoP.then (NoP.then (NoP.block (NoP.then NoP.base))))))) (by kernel_rfl) (by kernel_rfl) (by kernel_rfl) (by kernel_rfl) (fun _ _ => Yl.move rfl) ?_
            refine GW.take (v := .pointer (some ⟨g18, 0, none⟩)) (i := 7) (l' := #[true, true, true, true, true, true, false, true, false, false, false, false, false, false, false, false, false]) (rs := []) rfl (by kernel_rfl) rfl (NoP.block (NoP.then (NoP.block (NoP.then (NoP.then (NoP.block (NoP.then NoP.base))))))) (by kernel_rfl) (by kernel_rfl) (by kernel_rfl) (by kernel_rfl) (fun _ _ => Yl.move rfl) ?_
            refine GW.take (v := .pointer (some ⟨g38, 1, none⟩)) (i := 8) (l' := #[true, true, true, true, true, true, false, true, true, false, false, false, false, false, false, false, false]) (rs := []) rfl (by kernel_rfl) rfl (NoP.block (NoP.then (NoP.block (NoP.then (NoP.then (NoP.block (NoP.then NoP.base))))))) (by kernel_rfl) (by kernel_rfl) (by kernel_rfl) (by kernel_rfl) (fun _ _ => Yl.kern rfl rfl (fun _ => by kernel_rfl)) ?_
            refine GW.take (v := .int .i64 x30.xFrom) (i := 9) (l' := #[true, true, true, true, true, true, false, true, true, true, false, false, false, false, false, false, false]) (rs := []) rfl (by kernel_rfl) rfl (NoP.block (NoP.then (NoP.block (NoP.then (NoP.then (NoP.block (NoP.then NoP.base))))))) (by kernel_rfl) (by kernel_rfl) (by kernel_rfl) (by kernel_rfl) (fun _ ⟨_, H9⟩ => Yl.load rfl (Lds.one Try.isAgg3 (Cls.of (H9.cls (i := 0) rfl) rfl))) ?_
            refine GW.take (v := .pointer (some ⟨g38, 2, none⟩)) (i := 10) (l' := #[true, true, true, true, true, true, false, true, true, true, true, false, false, false, false, false, false]) (rs := []) rfl (by kernel_rfl) rfl (NoP.block (NoP.then (NoP.block (NoP.then (NoP.then (NoP.block (NoP.then NoP.base))))))) (by kernel_rfl) (by kernel_rfl) (by kernel_rfl) (by kernel_rfl) (fun _ _ => Yl.kern rfl rfl (fun _ => by kernel_rfl)) ?_
            refine GW.take (v := .int .i64 x30.xTo) (i := 11) (l' := #[true, true, true, true, true, true, false, true, true, true, true, true, false, false, false, false, false]) (rs := []) rfl (by kernel_rfl) rfl (NoP.block (NoP.then (NoP.block (NoP.then (NoP.then (NoP.block (NoP.then NoP.base))))))) (by kernel_rfl) (by kernel_rfl) (by kernel_rfl) (by kernel_rfl) (fun _ ⟨_, H9⟩ => Yl.load rfl (Lds.one Try.isAgg3 (Cls.of (H9.cls (i := 0) rfl) rfl))) ?_
            refine GW.take (v := .pointer (some ⟨g38, 4, none⟩)) (i := 12) (l' := #[true, true, true, true, true, true, false, true, true, true, true, true, true, false, false, false, false]) (rs := []) rfl (by kernel_rfl) rfl (NoP.block (NoP.then (NoP.block (NoP.then (NoP.then (NoP.block (NoP.then NoP.base))))))) (by kernel_rfl) (by kernel_rfl) (by kernel_rfl) (by kernel_rfl) (fun _ _ => Yl.kern rfl rfl (fun _ => by kernel_rfl)) ?_
            refine GW.take (v := .string ⟨List.toArray x30.xBytes⟩) (i := 13) (l' := #[true, true, true, true, true, true, false, true, true, true, true, true, true, true, false, false, false]) (rs := []) rfl (by kernel_rfl) rfl (NoP.block (NoP.then (NoP.block (NoP.then (NoP.then (NoP.block (NoP.then NoP.base))))))) (by kernel_rfl) (by kernel_rfl) (by kernel_rfl) (by kernel_rfl) (fun _ ⟨_, H9⟩ => Yl.load rfl (Lds.one Try.isAgg9 (Cls.of (H9.cls (i := 0) rfl) rfl))) ?_
            have H54 : Own w (fun _ : Nat => False) w51 [net h ls, blk g38 [.int .i64 x30.xDo, .int .i64 x30.xFrom, .int .i64 x30.xTo, .int .i64 x30.xN, .string ⟨List.toArray x30.xBytes⟩, .bool x30.xClone] 31, row A45 (List.length x30.xBytes) c46 (List.flatMap eB x30.xBytes) 5 1, rnet g18 (keys ls)] := H52.pick [2, 0, 1, 3] (by decide) rfl
            obtain ⟨D55, HP56, ro57, bk58, rr59⟩ := Own.enter (L1 := [net h ls]) (L2 := [blk g38 [.int .i64 x30.xDo, .int .i64 x30.xFrom, .int .i64 x30.xTo, .int .i64 x30.xN, .string ⟨List.toArray x30.xBytes⟩, .bool x30.xClone] 31, row A45 (List.length x30.xBytes) c46 (List.flatMap eB x30.xBytes) 5 1, rnet g18 (keys ls)]) H54
            refine GW.do (i := 6) (l' := #[true, true, true, true, true, true, true, true, true, true, true, true, true, true, false, false, false]) rfl rfl (by kernel_rfl) (by kernel_rfl) (Do.call Try.call7 rfl (Send_ok h ls x30.xFrom x30.xTo A45 c46 x30.xBytes _ _ HP56 (rr59 _ 1 _ rfl row_rds)) ?_)
            rintro _ w60 (⟨q062, rfl, HQ61⟩ | ⟨q064, q165, rfl, HQ63⟩ | ⟨q067, q168, rfl, HQ66⟩ | ⟨q170, q271, rfl, A72, c73, HQ69⟩)
            · skip
              have H74 : Own w (fun _ : Nat => False) w60 [net h ls, blk g38 [.int .i64 x30.xDo, .int .i64 x30.xFrom, .int .i64 x30.xTo, .int .i64 x30.xN, .string ⟨List.toArray x30.xBytes⟩, .bool x30.xClone] 31, row A45 (List.length x30.xBytes) c46 (List.flatMap eB x30.xBytes) 5 1, rnet g18 (keys ls)] := bk58 _ _ HQ61
              have H75 : Own w (fun _ : Nat => False) w60 [blk g38 [.int .i64 x30.xDo, .int .i64 x30.xFrom, .int .i64 x30.xTo, .int .i64 x30.xN, .string ⟨List.toArray x30.xBytes⟩, .bool x30.xClone] 31, row A45 (List.length x30.xBytes) c46 (List.flatMap eB x30.xBytes) 5 1, net h ls, rnet g18 (keys ls)] := H74.pick [1, 2, 0, 3] (by decide) rfl
              refine ⟨.inr ⟨_, H75⟩, ?_⟩
              show GW _ _ _ _ 3 #[true, true, true, true, true, true, true, true, true, true, true, true, true, true, false, false, false] _ _ _
              have H76 : Own w (fun _ : Nat => False) w60 [rnet g18 (keys ls), blk g38 [.int .i64 x30.xDo, .int .i64 x30.xFrom, .int .i64 x30.xTo, .int .i64 x30.xN, .string ⟨List.toArray x30.xBytes⟩, .bool x30.xClone] 31, row A45 (List.length x30.xBytes) c46 (List.flatMap eB x30.xBytes) 5 1, net h ls] := H75.pick [3, 0, 1, 2] (by decide) rfl
              obtain ⟨D77, HP78, ro79, bk80, rr81⟩ := Own.enter (L1 := [rnet g18 (keys ls)]) (L2 := [blk g38 [.int .i64 x30.xDo, .int .i64 x30.xFrom, .int .i64 x30.xTo, .int .i64 x30.xN, .string ⟨List.toArray x30.xBytes⟩, .bool x30.xClone] 31, row A45 (List.length x30.xBytes) c46 (List.flatMap eB x30.xBytes) 5 1, net h ls]) H76
              refine GW.do (i := 14) (l' := #[true, true, true, true, true, true, true, true, true, true, true, true, true, true, true, false, false]) rfl rfl (by kernel_rfl) (by kernel_rfl) (Do.call Try.call8 rfl (RSend_k g18 ls ls x30.xFrom x30.xTo x30.xBytes 1 _ _ HP78 (by omega) (.inl ⟨by omega, rfl, rfl⟩)) ?_)
              rintro _ w82 ⟨rfl, HQ83⟩
              have H84 : Own w (fun _ : Nat => False) w82 [rnet g18 (keys ls), blk g38 [.int .i64 x30.xDo, .int .i64 x30.xFrom, .int .i64 x30.xTo, .int .i64 x30.xN, .string ⟨List.toArray x30.xBytes⟩, .bool x30.xClone] 31, row A45 (List.length x30.xBytes) c46 (List.flatMap eB x30.xBytes) 5 1, net h ls] := bk80 _ _ HQ83
              have H85 : Own w (fun _ : Nat => False) w82 [blk g38 [.int .i64 x30.xDo, .int .i64 x30.xFrom, .int .i64 x30.xTo, .int .i64 x30.xN, .string ⟨List.toArray x30.xBytes⟩, .bool x30.xClone] 31, row A45 (List.length x30.xBytes) c46 (List.flatMap eB x30.xBytes) 5 1, rnet g18 (keys ls), net h ls] := H84.pick [1, 2, 0, 3] (by decide) rfl
              refine ⟨.inr ⟨_, H85⟩, ?_⟩
              show GW _ _ _ _ 2 #[true, true, true, true, true, true, true, true, true, true, true, true, true, true, true, false, false] _ _ _
              refine GW.take (v := .bool true) (i := 15) (l' := #[true, true, true, true, true, true, true, true, true, true, true, true, true, true, true, true, false]) (rs := []) rfl (by kernel_rfl) rfl (NoP.block (NoP.then (NoP.block (NoP.then (NoP.then (NoP.block (NoP.then NoP.base))))))) (by kernel_rfl) (by kernel_rfl) (by kernel_rfl) (by kernel_rfl) (fun _ _ => Yl.kern rfl rfl (fun _ => by kernel_rfl)) ?_
              refine GW.take (v := .bool true) (i := 16) (l' := #[true, true, true, true, true, true, true, true, true, true, true, true, true, true, true, true, true]) (rs := []) rfl (by kernel_rfl) rfl (NoP.block (NoP.then (NoP.block (NoP.then (NoP.then (NoP.block (NoP.then NoP.base))))))) (by kernel_rfl) (by kernel_rfl) (by kernel_rfl) (by kernel_rfl) (fun _ _ => Yl.assign rfl) ?_
              refine GW.done (by kernel_rfl) ?_
              refine Fin.blockN ?_
              have H86 : Own w (fun _ : Nat => False) w82 [net h ls, rnet g18 (keys ls), row A45 (List.length x30.xBytes) c46 (List.flatMap eB x30.xBytes) 5 1, blk g38 [.int .i64 x30.xDo, .int .i64 x30.xFrom, .int .i64 x30.xTo, .int .i64 x30.xN, .string ⟨List.toArray x30.xBytes⟩, .bool x30.xClone] 31] := H85.pick [3, 2, 1, 0] (by decide) rfl
              exact Fin.join ls ⟨rfl, rfl, rfl, rfl, rfl, rfl, rfl, rfl, rfl, rfl, rfl, rfl, rfl, rfl, rfl, rfl, rfl, rfl, rfl, rfl, rfl, rfl, rfl, rfl, rfl, rfl, rfl, rfl, rfl, rfl, rfl, rfl, rfl, trivial⟩ ⟨H86, hf⟩
            · skip
              have H87 : Own w (fun _ : Nat => False) w60 [net h ls, blk g38 [.int .i64 x30.xDo, .int .i64 x30.xFrom, .int .i64 x30.xTo, .int .i64 x30.xN, .string ⟨List.toArray x30.xBytes⟩, .bool x30.xClone] 31, row A45 (List.length x30.xBytes) c46 (List.flatMap eB x30.xBytes) 5 1, rnet g18 (keys ls)] := bk58 _ _ HQ63
              have H88 : Own w (fun _ : Nat => False) w60 [blk g38 [.int .i64 x30.xDo, .int .i64 x30.xFrom, .int .i64 x30.xTo, .int .i64 x30.xN, .string ⟨List.toArray x30.xBytes⟩, .bool x30.xClone] 31, row A45 (List.length x30.xBytes) c46 (List.flatMap eB x30.xBytes) 5 1, net h ls, rnet g18 (keys ls)] := H87.pick [1, 2, 0, 3] (by decide) rfl
              refine ⟨.inr ⟨_, H88⟩, ?_⟩
              show GW _ _ _ _ 3 #[true, true, true, true, true, true, true, true, true, true, true, true, true, true, false, false, false] _ _ _
              have H89 : Own w (fun _ : Nat => False) w60 [rnet g18 (keys ls), blk g38 [.int .i64 x30.xDo, .int .i64 x30.xFrom, .int .i64 x30.xTo, .int .i64 x30.xN, .string ⟨List.toArray x30.xBytes⟩, .bool x30.xClone] 31, row A45 (List.length x30.xBytes) c46 (List.flatMap eB x30.xBytes) 5 1, net h ls] := H88.pick [3, 0, 1, 2] (by decide) rfl
              obtain ⟨D90, HP91, ro92, bk93, rr94⟩ := Own.enter (L1 := [rnet g18 (keys ls)]) (L2 := [blk g38 [.int .i64 x30.xDo, .int .i64 x30.xFrom, .int .i64 x30.xTo, .int .i64 x30.xN, .string ⟨List.toArray x30.xBytes⟩, .bool x30.xClone] 31, row A45 (List.length x30.xBytes) c46 (List.flatMap eB x30.xBytes) 5 1, net h ls]) H89
              refine GW.do (i := 14) (l' := #[true, true, true, true, true, true, true, true, true, true, true, true, true, true, true, false, false]) rfl rfl (by kernel_rfl) (by kernel_rfl) (Do.call Try.call8 rfl (RSend_k g18 ls ls x30.xFrom x30.xTo x30.xBytes 2 _ _ HP91 (by omega) (.inr (.inl ⟨by omega, by omega, rfl, rfl⟩))) ?_)
              rintro _ w95 ⟨rfl, HQ96⟩
              have H97 : Own w (fun _ : Nat => False) w95 [rnet g18 (keys ls), blk g38 [.int .i64 x30.xDo, .int .i64 x30.xFrom, .int .i64 x30.xTo, .int .i64 x30.xN, .string ⟨List.toArray x30.xBytes⟩, .bool x30.xClone] 31, row A45 (List.length x30.xBytes) c46 (List.flatMap eB x30.xBytes) 5 1, net h ls] := bk93 _ _ HQ96
              have H98 : Own w (fun _ : Nat => False) w95 [blk g38 [.int .i64 x30.xDo, .int .i64 x30.xFrom, .int .i64 x30.xTo, .int .i64 x30.xN, .string ⟨List.toArray x30.xBytes⟩, .bool x30.xClone] 31, row A45 (List.length x30.xBytes) c46 (List.flatMap eB x30.xBytes) 5 1, rnet g18 (keys ls), net h ls] := H97.pick [1, 2, 0, 3] (by decide) rfl
              refine ⟨.inr ⟨_, H98⟩, ?_⟩
              show GW _ _ _ _ 2 #[true, true, true, true, true, true, true, true, true, true, true, true, true, true, true, false, false] _ _ _
              refine GW.take (v := .bool true) (i := 15) (l' := #[true, true, true, true, true, true, true, true, true, true, true, true, true, true, true, true, false]) (rs := []) rfl (by kernel_rfl) rfl (NoP.block (NoP.then (NoP.block (NoP.then (NoP.then (NoP.block (NoP.then NoP.base))))))) (by kernel_rfl) (by kernel_rfl) (by kernel_rfl) (by kernel_rfl) (fun _ _ => Yl.kern rfl rfl (fun _ => by kernel_rfl)) ?_
              refine GW.take (v := .bool true) (i := 16) (l' := #[true, true, true, true, true, true, true, true, true, true, true, true, true, true, true, true, true]) (rs := []) rfl (by kernel_rfl) rfl (NoP.block (NoP.then (NoP.block (NoP.then (NoP.then (NoP.block (NoP.then NoP.base))))))) (by kernel_rfl) (by kernel_rfl) (by kernel_rfl) (by kernel_rfl) (fun _ _ => Yl.assign rfl) ?_
              refine GW.done (by kernel_rfl) ?_
              refine Fin.blockN ?_
              have H99 : Own w (fun _ : Nat => False) w95 [net h ls, rnet g18 (keys ls), row A45 (List.length x30.xBytes) c46 (List.flatMap eB x30.xBytes) 5 1, blk g38 [.int .i64 x30.xDo, .int .i64 x30.xFrom, .int .i64 x30.xTo, .int .i64 x30.xN, .string ⟨List.toArray x30.xBytes⟩, .bool x30.xClone] 31] := H98.pick [3, 2, 1, 0] (by decide) rfl
              exact Fin.join ls ⟨rfl, rfl, rfl, rfl, rfl, rfl, rfl, rfl, rfl, rfl, rfl, rfl, rfl, rfl, rfl, rfl, rfl, rfl, rfl, rfl, rfl, rfl, rfl, rfl, rfl, rfl, rfl, rfl, rfl, rfl, rfl, rfl, rfl, trivial⟩ ⟨H99, hf⟩
            · skip
              have H100 : Own w (fun _ : Nat => False) w60 [net h ls, blk g38 [.int .i64 x30.xDo, .int .i64 x30.xFrom, .int .i64 x30.xTo, .int .i64 x30.xN, .string ⟨List.toArray x30.xBytes⟩, .bool x30.xClone] 31, row A45 (List.length x30.xBytes) c46 (List.flatMap eB x30.xBytes) 5 1, rnet g18 (keys ls)] := bk58 _ _ HQ66
              have H101 : Own w (fun _ : Nat => False) w60 [blk g38 [.int .i64 x30.xDo, .int .i64 x30.xFrom, .int .i64 x30.xTo, .int .i64 x30.xN, .string ⟨List.toArray x30.xBytes⟩, .bool x30.xClone] 31, row A45 (List.length x30.xBytes) c46 (List.flatMap eB x30.xBytes) 5 1, net h ls, rnet g18 (keys ls)] := H100.pick [1, 2, 0, 3] (by decide) rfl
              refine ⟨.inr ⟨_, H101⟩, ?_⟩
              show GW _ _ _ _ 3 #[true, true, true, true, true, true, true, true, true, true, true, true, true, true, false, false, false] _ _ _
              have H102 : Own w (fun _ : Nat => False) w60 [rnet g18 (keys ls), blk g38 [.int .i64 x30.xDo, .int .i64 x30.xFrom, .int .i64 x30.xTo, .int .i64 x30.xN, .string ⟨List.toArray x30.xBytes⟩, .bool x30.xClone] 31, row A45 (List.length x30.xBytes) c46 (List.flatMap eB x30.xBytes) 5 1, net h ls] := H101.pick [3, 0, 1, 2] (by decide) rfl
              obtain ⟨D103, HP104, ro105, bk106, rr107⟩ := Own.enter (L1 := [rnet g18 (keys ls)]) (L2 := [blk g38 [.int .i64 x30.xDo, .int .i64 x30.xFrom, .int .i64 x30.xTo, .int .i64 x30.xN, .string ⟨List.toArray x30.xBytes⟩, .bool x30.xClone] 31, row A45 (List.length x30.xBytes) c46 (List.flatMap eB x30.xBytes) 5 1, net h ls]) H102
              refine GW.do (i := 14) (l' := #[true, true, true, true, true, true, true, true, true, true, true, true, true, true, true, false, false]) rfl rfl (by kernel_rfl) (by kernel_rfl) (Do.call Try.call8 rfl (RSend_k g18 ls ls x30.xFrom x30.xTo x30.xBytes 62 _ _ HP104 (by omega) (.inr (.inr (.inl ⟨by omega, by omega, rfl, rfl⟩)))) ?_)
              rintro _ w108 ⟨rfl, HQ109⟩
              have H110 : Own w (fun _ : Nat => False) w108 [rnet g18 (keys ls), blk g38 [.int .i64 x30.xDo, .int .i64 x30.xFrom, .int .i64 x30.xTo, .int .i64 x30.xN, .string ⟨List.toArray x30.xBytes⟩, .bool x30.xClone] 31, row A45 (List.length x30.xBytes) c46 (List.flatMap eB x30.xBytes) 5 1, net h ls] := bk106 _ _ HQ109
              have H111 : Own w (fun _ : Nat => False) w108 [blk g38 [.int .i64 x30.xDo, .int .i64 x30.xFrom, .int .i64 x30.xTo, .int .i64 x30.xN, .string ⟨List.toArray x30.xBytes⟩, .bool x30.xClone] 31, row A45 (List.length x30.xBytes) c46 (List.flatMap eB x30.xBytes) 5 1, rnet g18 (keys ls), net h ls] := H110.pick [1, 2, 0, 3] (by decide) rfl
              refine ⟨.inr ⟨_, H111⟩, ?_⟩
              show GW _ _ _ _ 2 #[true, true, true, true, true, true, true, true, true, true, true, true, true, true, true, false, false] _ _ _
              refine GW.take (v := .bool true) (i := 15) (l' := #[true, true, true, true, true, true, true, true, true, true, true, true, true, true, true, true, false]) (rs := []) rfl (by kernel_rfl) rfl (NoP.block (NoP.then (NoP.block (NoP.then (NoP.then (NoP.block (NoP.then NoP.base))))))) (by kernel_rfl) (by kernel_rfl) (by kernel_rfl) (by kernel_rfl) (fun _ _ => Yl.kern rfl rfl (fun _ => by kernel_rfl)) ?_
              refine GW.take (v := .bool true) (i := 16) (l' := #[true, true, true, true, true, true, true, true, true, true, true, true, true, true, true, true, true]) (rs := []) rfl (by kernel_rfl) rfl (NoP.block (NoP.then (NoP.block (NoP.then (NoP.then (NoP.block (NoP.then NoP.base))))))) (by kernel_rfl) (by kernel_rfl) (by kernel_rfl) (by kernel_rfl) (fun _ _ => Yl.assign rfl) ?_
              refine GW.done (by kernel_rfl) ?_
              refine Fin.blockN ?_
              have H112 : Own w (fun _ : Nat => False) w108 [net h ls, rnet g18 (keys ls), row A45 (List.length x30.xBytes) c46 (List.flatMap eB x30.xBytes) 5 1, blk g38 [.int .i64 x30.xDo, .int .i64 x30.xFrom, .int .i64 x30.xTo, .int .i64 x30.xN, .string ⟨List.toArray x30.xBytes⟩, .bool x30.xClone] 31] := H111.pick [3, 2, 1, 0] (by decide) rfl
              exact Fin.join ls ⟨rfl, rfl, rfl, rfl, rfl, rfl, rfl, rfl, rfl, rfl, rfl, rfl, rfl, rfl, rfl, rfl, rfl, rfl, rfl, rfl, rfl, rfl, rfl, rfl, rfl, rfl, rfl, rfl, rfl, rfl, rfl, rfl, rfl, trivial⟩ ⟨H112, hf⟩
            · skip
              have H113 : Own w (fun _ : Nat => False) w60 [net h (ls ++ [(Lt.mk x30.xFrom x30.xTo A72 c73 x30.xBytes)]), blk g38 [.int .i64 x30.xDo, .int .i64 x30.xFrom, .int .i64 x30.xTo, .int .i64 x30.xN, .string ⟨List.toArray x30.xBytes⟩, .bool x30.xClone] 31, row A45 (List.length x30.xBytes) c46 (List.flatMap eB x30.xBytes) 5 1, rnet g18 (keys ls)] := bk58 _ _ HQ69
              have H114 : Own w (fun _ : Nat => False) w60 [blk g38 [.int .i64 x30.xDo, .int .i64 x30.xFrom, .int .i64 x30.xTo, .int .i64 x30.xN, .string ⟨List.toArray x30.xBytes⟩, .bool x30.xClone] 31, row A45 (List.length x30.xBytes) c46 (List.flatMap eB x30.xBytes) 5 1, net h (ls ++ [(Lt.mk x30.xFrom x30.xTo A72 c73 x30.xBytes)]), rnet g18 (keys ls)] := H113.pick [1, 2, 0, 3] (by decide) rfl
              refine ⟨.inr ⟨_, H114⟩, ?_⟩
              show GW _ _ _ _ 3 #[true, true, true, true, true, true, true, true, true, true, true, true, true, true, false, false, false] _ _ _
              have H115 : Own w (fun _ : Nat => False) w60 [rnet g18 (keys ls), blk g38 [.int .i64 x30.xDo, .int .i64 x30.xFrom, .int .i64 x30.xTo, .int .i64 x30.xN, .string ⟨List.toArray x30.xBytes⟩, .bool x30.xClone] 31, row A45 (List.length x30.xBytes) c46 (List.flatMap eB x30.xBytes) 5 1, net h (ls ++ [(Lt.mk x30.xFrom x30.xTo A72 c73 x30.xBytes)])] := H114.pick [3, 0, 1, 2] (by decide) rfl
              obtain ⟨D116, HP117, ro118, bk119, rr120⟩ := Own.enter (L1 := [rnet g18 (keys ls)]) (L2 := [blk g38 [.int .i64 x30.xDo, .int .i64 x30.xFrom, .int .i64 x30.xTo, .int .i64 x30.xN, .string ⟨List.toArray x30.xBytes⟩, .bool x30.xClone] 31, row A45 (List.length x30.xBytes) c46 (List.flatMap eB x30.xBytes) 5 1, net h (ls ++ [(Lt.mk x30.xFrom x30.xTo A72 c73 x30.xBytes)])]) H115
              refine GW.do (i := 14) (l' := #[true, true, true, true, true, true, true, true, true, true, true, true, true, true, true, false, false]) rfl rfl (by kernel_rfl) (by kernel_rfl) (Do.call Try.call8 rfl (RSend_k g18 ls (ls ++ [(Lt.mk x30.xFrom x30.xTo A72 c73 x30.xBytes)]) x30.xFrom x30.xTo x30.xBytes 0 _ _ HP117 (by omega) (.inr (.inr (.inr ⟨by omega, by omega, rfl, _, _, rfl⟩)))) ?_)
              rintro _ w121 ⟨rfl, HQ122⟩
              have H123 : Own w (fun _ : Nat => False) w121 [rnet g18 (keys (ls ++ [(Lt.mk x30.xFrom x30.xTo A72 c73 x30.xBytes)])), blk g38 [.int .i64 x30.xDo, .int .i64 x30.xFrom, .int .i64 x30.xTo, .int .i64 x30.xN, .string ⟨List.toArray x30.xBytes⟩, .bool x30.xClone] 31, row A45 (List.length x30.xBytes) c46 (List.flatMap eB x30.xBytes) 5 1, net h (ls ++ [(Lt.mk x30.xFrom x30.xTo A72 c73 x30.xBytes)])] := bk119 _ _ HQ122
              have H124 : Own w (fun _ : Nat => False) w121 [blk g38 [.int .i64 x30.xDo, .int .i64 x30.xFrom, .int .i64 x30.xTo, .int .i64 x30.xN, .string ⟨List.toArray x30.xBytes⟩, .bool x30.xClone] 31, row A45 (List.length x30.xBytes) c46 (List.flatMap eB x30.xBytes) 5 1, rnet g18 (keys (ls ++ [(Lt.mk x30.xFrom x30.xTo A72 c73 x30.xBytes)])), net h (ls ++ [(Lt.mk x30.xFrom x30.xTo A72 c73 x30.xBytes)])] := H123.pick [1, 2, 0, 3] (by decide) rfl
              refine ⟨.inr ⟨_, H124⟩, ?_⟩
              show GW _ _ _ _ 2 #[true, true, true, true, true, true, true, true, true, true, true, true, true, true, true, false, false] _ _ _
              refine GW.take (v := .bool true) (i := 15) (l' := #[true, true, true, true, true, true, true, true, true, true, true, true, true, true, true, true, false]) (rs := []) rfl (by kernel_rfl) rfl (NoP.block (NoP.then (NoP.block (NoP.then (NoP.then (NoP.block (NoP.then NoP.base))))))) (by kernel_rfl) (by kernel_rfl) (by kernel_rfl) (by kernel_rfl) (fun _ _ => Yl.kern rfl rfl (fun _ => by kernel_rfl)) ?_
              refine GW.take (v := .bool true) (i := 16) (l' := #[true, true, true, true, true, true, true, true, true, true, true, true, true, true, true, true, true]) (rs := []) rfl (by kernel_rfl) rfl (NoP.block (NoP.then (NoP.block (NoP.then (NoP.then (NoP.block (NoP.then NoP.base))))))) (by kernel_rfl) (by kernel_rfl) (by kernel_rfl) (by kernel_rfl) (fun _ _ => Yl.assign rfl) ?_
              refine GW.done (by kernel_rfl) ?_
              refine Fin.blockN ?_
              have H125 : Own w (fun _ : Nat => False) w121 [net h (ls ++ [(Lt.mk x30.xFrom x30.xTo A72 c73 x30.xBytes)]), rnet g18 (keys (ls ++ [(Lt.mk x30.xFrom x30.xTo A72 c73 x30.xBytes)])), row A45 (List.length x30.xBytes) c46 (List.flatMap eB x30.xBytes) 5 1, blk g38 [.int .i64 x30.xDo, .int .i64 x30.xFrom, .int .i64 x30.xTo, .int .i64 x30.xN, .string ⟨List.toArray x30.xBytes⟩, .bool x30.xClone] 31] := H124.pick [3, 2, 1, 0] (by decide) rfl
              exact Fin.join (ls ++ [(Lt.mk x30.xFrom x30.xTo A72 c73 x30.xBytes)]) ⟨rfl, rfl, rfl, rfl, rfl, rfl, rfl, rfl, rfl, rfl, rfl, rfl, rfl, rfl, rfl, rfl, rfl, rfl, rfl, rfl, rfl, rfl, rfl, rfl, rfl, rfl, rfl, rfl, rfl, rfl, rfl, rfl, rfl, trivial⟩ ⟨H125, hf.push (by omega) _ _ _ _ _ (by omega) (by omega) (by omega)⟩
          · skip
            refine Wp.cond0 rfl (decide_eq_false h49) ?_
            refine Wp.seq ?_
            refine Wp.region ?_
            refine WL.val (v := .bool (decide (x30.xDo = 1))) rfl (Yl.kern rfl rfl (fun _ => by kernel_rfl)) ?_
            refine WL.val (v := .bool (decide (x30.xDo = 1))) rfl (Yl.assign rfl) ?_
            refine WL.nil ?_
            refine Fin.then ?_
            by_cases h126 : x30.xDo = 1
            · skip
              refine Wp.cond1 rfl (decide_eq_true h126) ?_
              refine Wp.seq ?_
              refine Wp.region ?_
              refine WL.val (v := .pointer (some ⟨h, 0, none⟩)) rfl (Yl.move rfl) ?_
              refine WL.val (v := .pointer (some ⟨g38, 3, none⟩)) rfl (Yl.kern rfl rfl (fun _ => by kernel_rfl)) ?_
              refine WL.val (v := .int .i64 x30.xN) rfl (Yl.load rfl (Lds.one Try.isAgg3 (Cls.of (H48.cls (i := 1) rfl) rfl))) ?_
              have H127 : Own w (fun _ : Nat => False) w47 [net h ls, row A45 (List.length x30.xBytes) c46 (List.flatMap eB x30.xBytes) 5 1, blk g38 [.int .i64 x30.xDo, .int .i64 x30.xFrom, .int .i64 x30.xTo, .int .i64 x30.xN, .string ⟨List.toArray x30.xBytes⟩, .bool x30.xClone] 31, rnet g18 (keys ls)] := H48.pick [2, 0, 1, 3] (by decide) rfl
              obtain ⟨D128, HP129, ro130, bk131, rr132⟩ := Own.enter (L1 := [net h ls]) (L2 := [row A45 (List.length x30.xBytes) c46 (List.flatMap eB x30.xBytes) 5 1, blk g38 [.int .i64 x30.xDo, .int .i64 x30.xFrom, .int .i64 x30.xTo, .int .i64 x30.xN, .string ⟨List.toArray x30.xBytes⟩, .bool x30.xClone] 31, rnet g18 (keys ls)]) H127
              refine WL.do rfl (Do.call Try.call9 rfl (Take_any h ls x30.xN _ _ HP129 hf) ?_)
              rintro _ w133 (⟨m135, l136, qi137, ql138, rfl, HQ134⟩ | ⟨qo140, rfl, HQ139⟩)
              · skip
                have H141 : Own w (fun _ : Nat => False) w133 [net h (List.eraseIdx ls m135), row l136.A (List.length l136.bs) l136.c (List.flatMap eB l136.bs) 5 1, row A45 (List.length x30.xBytes) c46 (List.flatMap eB x30.xBytes) 5 1, blk g38 [.int .i64 x30.xDo, .int .i64 x30.xFrom, .int .i64 x30.xTo, .int .i64 x30.xN, .string ⟨List.toArray x30.xBytes⟩, .bool x30.xClone] 31, rnet g18 (keys ls)] := bk131 _ _ HQ134
                have bql138 := (hf.at_ ql138).1
                refine WL.val (v := .tuple #[.agg #[.int .i64 l136.fr, .int .i64 l136.to, .slice l136.A (List.length l136.bs) l136.c], .int .i64 0]) rfl (Yl.move rfl) ?_
                refine WL.val (v := .agg #[.int .i64 l136.fr, .int .i64 l136.to, .slice l136.A (List.length l136.bs) l136.c]) rfl (Yl.kern rfl rfl (fun _ => by kernel_rfl)) ?_
                refine WL.val (v := .int .i64 0) rfl (Yl.kern rfl rfl (fun _ => by kernel_rfl)) ?_
                refine WL.do rfl (Do.newP (cs := [.int .i64 0, .int .i64 0, .slice none 0 0]) (t := 37) H141 rfl rfl (fun _ => by kernel_rfl) ?_)
                intro g142 w143 H144
                replace H144 : Own w (fun _ : Nat => False) w143 [blk g142 [.int .i64 0, .int .i64 0, .slice none 0 0] 37, net h (List.eraseIdx ls m135), row l136.A (List.length l136.bs) l136.c (List.flatMap eB l136.bs) 5 1, row A45 (List.length x30.xBytes) c46 (List.flatMap eB x30.xBytes) 5 1, blk g38 [.int .i64 x30.xDo, .int .i64 x30.xFrom, .int .i64 x30.xTo, .int .i64 x30.xN, .string ⟨List.toArray x30.xBytes⟩, .bool x30.xClone] 31, rnet g18 (keys ls)] := H144
                refine WL.do0 (Do.store (vs := [.int .i64 l136.fr, .int .i64 l136.to, .slice l136.A (List.length l136.bs) l136.c]) (o := 0) H144 rfl rfl Try.sizeOf37 rfl rfl rfl rfl ?_)
                intro w145 H146
                replace H146 : Own w (fun _ : Nat => False) w145 [blk g142 [.int .i64 l136.fr, .int .i64 l136.to, .slice l136.A (List.length l136.bs) l136.c] 37, net h (List.eraseIdx ls m135), row l136.A (List.length l136.bs) l136.c (List.flatMap eB l136.bs) 5 1, row A45 (List.length x30.xBytes) c46 (List.flatMap eB x30.xBytes) 5 1, blk g38 [.int .i64 x30.xDo, .int .i64 x30.xFrom, .int .i64 x30.xTo, .int .i64 x30.xN, .string ⟨List.toArray x30.xBytes⟩, .bool x30.xClone] 31, rnet g18 (keys ls)] := H146
                refine WL.val (v := .int .i64 0) rfl (Yl.assign rfl) ?_
                refine WL.nil ?_
                refine Fin.then ?_
                refine Wp.seq ?_
                refine Wp.region ?_
                refine WL.val (v := .pointer (some ⟨g18, 0, none⟩)) rfl (Yl.move rfl) ?_
                refine WL.val (v := .pointer (some ⟨g38, 3, none⟩)) rfl (Yl.kern rfl rfl (fun _ => by kernel_rfl)) ?_
                refine WL.val (v := .int .i64 x30.xN) rfl (Yl.load rfl (Lds.one Try.isAgg3 (Cls.of (H146.cls (i := 4) rfl) rfl))) ?_
                have H147 : Own w (fun _ : Nat => False) w145 [rnet g18 (keys ls), blk g142 [.int .i64 l136.fr, .int .i64 l136.to, .slice l136.A (List.length l136.bs) l136.c] 37, net h (List.eraseIdx ls m135), row l136.A (List.length l136.bs) l136.c (List.flatMap eB l136.bs) 5 1, row A45 (List.length x30.xBytes) c46 (List.flatMap eB x30.xBytes) 5 1, blk g38 [.int .i64 x30.xDo, .int .i64 x30.xFrom, .int .i64 x30.xTo, .int .i64 x30.xN, .string ⟨List.toArray x30.xBytes⟩, .bool x30.xClone] 31] := H146.pick [5, 0, 1, 2, 3, 4] (by decide) rfl
                obtain ⟨D148, HP149, ro150, bk151, rr152⟩ := Own.enter (L1 := [rnet g18 (keys ls)]) (L2 := [blk g142 [.int .i64 l136.fr, .int .i64 l136.to, .slice l136.A (List.length l136.bs) l136.c] 37, net h (List.eraseIdx ls m135), row l136.A (List.length l136.bs) l136.c (List.flatMap eB l136.bs) 5 1, row A45 (List.length x30.xBytes) c46 (List.flatMap eB x30.xBytes) 5 1, blk g38 [.int .i64 x30.xDo, .int .i64 x30.xFrom, .int .i64 x30.xTo, .int .i64 x30.xN, .string ⟨List.toArray x30.xBytes⟩, .bool x30.xClone] 31]) H147
                refine WL.do rfl (Do.call Try.call10 rfl (RTake_k g18 ls x30.xN _ _ HP149 hf m135 l136 qi137 ql138) ?_)
                rintro _ w153 ⟨rfl, HQ154⟩
                have H155 : Own w (fun _ : Nat => False) w153 [rnet g18 (keys (List.eraseIdx ls m135)), blk g142 [.int .i64 l136.fr, .int .i64 l136.to, .slice l136.A (List.length l136.bs) l136.c] 37, net h (List.eraseIdx ls m135), row l136.A (List.length l136.bs) l136.c (List.flatMap eB l136.bs) 5 1, row A45 (List.length x30.xBytes) c46 (List.flatMap eB x30.xBytes) 5 1, blk g38 [.int .i64 x30.xDo, .int .i64 x30.xFrom, .int .i64 x30.xTo, .int .i64 x30.xN, .string ⟨List.toArray x30.xBytes⟩, .bool x30.xClone] 31] := bk151 _ _ HQ154
                refine WL.val (v := .tuple #[.agg #[.int .i64 l136.fr, .int .i64 l136.to, .string ⟨List.toArray l136.bs⟩], .int .i64 0]) rfl (Yl.move rfl) ?_
                refine WL.val (v := .agg #[.int .i64 l136.fr, .int .i64 l136.to, .string ⟨List.toArray l136.bs⟩]) rfl (Yl.kern rfl rfl (fun _ => by kernel_rfl)) ?_
                refine WL.val (v := .int .i64 0) rfl (Yl.kern rfl rfl (fun _ => by kernel_rfl)) ?_
                refine WL.do rfl (Do.newP (cs := [.int .i64 0, .int .i64 0, .string ⟨List.toArray ([])⟩]) (t := 41) H155 rfl rfl (fun _ => by kernel_rfl) ?_)
                intro g156 w157 H158
                replace H158 : Own w (fun _ : Nat => False) w157 [blk g156 [.int .i64 0, .int .i64 0, .string ⟨List.toArray ([])⟩] 41, rnet g18 (keys (List.eraseIdx ls m135)), blk g142 [.int .i64 l136.fr, .int .i64 l136.to, .slice l136.A (List.length l136.bs) l136.c] 37, net h (List.eraseIdx ls m135), row l136.A (List.length l136.bs) l136.c (List.flatMap eB l136.bs) 5 1, row A45 (List.length x30.xBytes) c46 (List.flatMap eB x30.xBytes) 5 1, blk g38 [.int .i64 x30.xDo, .int .i64 x30.xFrom, .int .i64 x30.xTo, .int .i64 x30.xN, .string ⟨List.toArray x30.xBytes⟩, .bool x30.xClone] 31] := H158
                refine WL.do0 (Do.store (vs := [.int .i64 l136.fr, .int .i64 l136.to, .string ⟨List.toArray l136.bs⟩]) (o := 0) H158 rfl rfl Try.sizeOf41 rfl rfl rfl rfl ?_)
                intro w159 H160
                replace H160 : Own w (fun _ : Nat => False) w159 [blk g156 [.int .i64 l136.fr, .int .i64 l136.to, .string ⟨List.toArray l136.bs⟩] 41, rnet g18 (keys (List.eraseIdx ls m135)), blk g142 [.int .i64 l136.fr, .int .i64 l136.to, .slice l136.A (List.length l136.bs) l136.c] 37, net h (List.eraseIdx ls m135), row l136.A (List.length l136.bs) l136.c (List.flatMap eB l136.bs) 5 1, row A45 (List.length x30.xBytes) c46 (List.flatMap eB x30.xBytes) 5 1, blk g38 [.int .i64 x30.xDo, .int .i64 x30.xFrom, .int .i64 x30.xTo, .int .i64 x30.xN, .string ⟨List.toArray x30.xBytes⟩, .bool x30.xClone] 31] := H160
                refine WL.val (v := .int .i64 0) rfl (Yl.assign rfl) ?_
                refine WL.nil ?_
                refine Fin.then ?_
                refine Wp.region ?_
                refine WL.val (v := .pointer (some ⟨g142, 0, none⟩)) rfl (Yl.kern rfl rfl (fun _ => by kernel_rfl)) ?_
                refine WL.val (v := .int .i64 l136.fr) rfl (Yl.load rfl (Lds.one Try.isAgg3 (Cls.of (H160.cls (i := 2) rfl) rfl))) ?_
                refine WL.val (v := .pointer (some ⟨g156, 0, none⟩)) rfl (Yl.kern rfl rfl (fun _ => by kernel_rfl)) ?_
                refine WL.val (v := .int .i64 l136.fr) rfl (Yl.load rfl (Lds.one Try.isAgg3 (Cls.of (H160.cls (i := 0) rfl) rfl))) ?_
                refine WL.val (v := .bool true) rfl (Yl.bool (e := decide (l136.fr = l136.fr)) (Yl.kern rfl rfl (fun _ => by kernel_rfl)) (by simp)) ?_
                refine WL.val (v := .bool true) rfl (Yl.move rfl) ?_
                refine WL.valG (v := .pointer (some ⟨g142, 1, none⟩)) rfl rfl rfl rfl (Yl.kern rfl rfl (fun _ => by kernel_rfl)) ?_
                refine WL.valG (v := .int .i64 l136.to) rfl rfl rfl rfl (Yl.load rfl (Lds.one Try.isAgg3 (Cls.of (H160.cls (i := 2) rfl) rfl))) ?_
                refine WL.valG (v := .pointer (some ⟨g156, 1, none⟩)) rfl rfl rfl rfl (Yl.kern rfl rfl (fun _ => by kernel_rfl)) ?_
                refine WL.valG (v := .int .i64 l136.to) rfl rfl rfl rfl (Yl.load rfl (Lds.one Try.isAgg3 (Cls.of (H160.cls (i := 0) rfl) rfl))) ?_
                refine WL.valG (v := .bool true) rfl rfl rfl rfl (Yl.bool (e := decide (l136.to = l136.to)) (Yl.kern rfl rfl (fun _ => by kernel_rfl)) (by simp)) ?_
                refine WL.val (v := .bool true) rfl (Yl.pickT rfl rfl rfl) ?_
                refine WL.val (v := .bool true) rfl (Yl.move rfl) ?_
                refine WL.valG (v := .pointer (some ⟨g142, 2, none⟩)) rfl rfl rfl rfl (Yl.kern rfl rfl (fun _ => by kernel_rfl)) ?_
                refine WL.valG (v := .slice l136.A (List.length l136.bs) l136.c) rfl rfl rfl rfl (Yl.load rfl (Lds.one Try.isAgg32 (Cls.of (H160.cls (i := 2) rfl) rfl))) ?_
                refine WL.valG (v := .string ⟨List.toArray l136.bs⟩) rfl rfl rfl rfl (Yl.toStringE (l := l136.bs) Try.underlying32 Try.underlying5 Try.underlying9 (H160.rds (i := 4) rfl) rfl) ?_
                refine WL.valG (v := .pointer (some ⟨g156, 2, none⟩)) rfl rfl rfl rfl (Yl.kern rfl rfl (fun _ => by kernel_rfl)) ?_
                refine WL.valG (v := .string ⟨List.toArray l136.bs⟩) rfl rfl rfl rfl (Yl.load rfl (Lds.one Try.isAgg9 (Cls.of (H160.cls (i := 0) rfl) rfl))) ?_
                refine WL.valG (v := .bool true) rfl rfl rfl rfl (Yl.bool (e := decide (l136.bs = l136.bs)) (Yl.strEq rfl rfl) (by simp)) ?_
                refine WL.val (v := .bool true) rfl (Yl.pickT rfl rfl rfl) ?_
                refine WL.val (v := .bool true) rfl (Yl.move rfl) ?_
                refine WL.valG (v := .int .i64 0) rfl rfl rfl rfl (Yl.move rfl) ?_
                refine WL.valG (v := .int .i64 0) rfl rfl rfl rfl (Yl.move rfl) ?_
                refine WL.valG (v := .bool true) rfl rfl rfl rfl (Yl.kern rfl rfl (fun _ => by kernel_rfl)) ?_
                refine WL.val (v := .bool true) rfl (Yl.pickT rfl rfl rfl) ?_
                refine WL.val (v := .bool true) rfl (Yl.assign rfl) ?_
                refine WL.nil ?_
                refine Fin.blockN ?_
                have H161 : Own w (fun _ : Nat => False) w159 [net h (List.eraseIdx ls m135), rnet g18 (keys (List.eraseIdx ls m135)), row A45 (List.length x30.xBytes) c46 (List.flatMap eB x30.xBytes) 5 1, blk g38 [.int .i64 x30.xDo, .int .i64 x30.xFrom, .int .i64 x30.xTo, .int .i64 x30.xN, .string ⟨List.toArray x30.xBytes⟩, .bool x30.xClone] 31] := H160.pick [3, 1, 5, 6] (by decide) rfl
                exact Fin.join (List.eraseIdx ls m135) ⟨rfl, rfl, rfl, rfl, rfl, rfl, rfl, rfl, rfl, rfl, rfl, rfl, rfl, rfl, rfl, rfl, rfl, rfl, rfl, rfl, rfl, rfl, rfl, rfl, rfl, rfl, rfl, rfl, rfl, rfl, rfl, rfl, rfl, trivial⟩ ⟨H161, hf.erase _⟩
              · skip
                have H162 : Own w (fun _ : Nat => False) w133 [net h ls, row A45 (List.length x30.xBytes) c46 (List.flatMap eB x30.xBytes) 5 1, blk g38 [.int .i64 x30.xDo, .int .i64 x30.xFrom, .int .i64 x30.xTo, .int .i64 x30.xN, .string ⟨List.toArray x30.xBytes⟩, .bool x30.xClone] 31, rnet g18 (keys ls)] := bk131 _ _ HQ139
                refine WL.val (v := .tuple #[.agg #[.int .i64 0, .int .i64 0, .slice none 0 0], .int .i64 5]) rfl (Yl.move rfl) ?_
                refine WL.val (v := .agg #[.int .i64 0, .int .i64 0, .slice none 0 0]) rfl (Yl.kern rfl rfl (fun _ => by kernel_rfl)) ?_
                refine WL.val (v := .int .i64 5) rfl (Yl.kern rfl rfl (fun _ => by kernel_rfl)) ?_
                refine WL.do rfl (Do.newP (cs := [.int .i64 0, .int .i64 0, .slice none 0 0]) (t := 37) H162 rfl rfl (fun _ => by kernel_rfl) ?_)
                intro g163 w164 H165
                replace H165 : Own w (fun _ : Nat => False) w164 [blk g163 [.int .i64 0, .int .i64 0, .slice none 0 0] 37, net h ls, row A45 (List.length x30.xBytes) c46 (List.flatMap eB x30.xBytes) 5 1, blk g38 [.int .i64 x30.xDo, .int .i64 x30.xFrom, .int .i64 x30.xTo, .int .i64 x30.xN, .string ⟨List.toArray x30.xBytes⟩, .bool x30.xClone] 31, rnet g18 (keys ls)] := H165
                refine WL.do0 (Do.store (vs := [.int .i64 0, .int .i64 0, .slice none 0 0]) (o := 0) H165 rfl rfl Try.sizeOf37 rfl rfl rfl rfl ?_)
                intro w166 H167
                replace H167 : Own w (fun _ : Nat => False) w166 [blk g163 [.int .i64 0, .int .i64 0, .slice none 0 0] 37, net h ls, row A45 (List.length x30.xBytes) c46 (List.flatMap eB x30.xBytes) 5 1, blk g38 [.int .i64 x30.xDo, .int .i64 x30.xFrom, .int .i64 x30.xTo, .int .i64 x30.xN, .string ⟨List.toArray x30.xBytes⟩, .bool x30.xClone] 31, rnet g18 (keys ls)] := H167
                refine WL.val (v := .int .i64 5) rfl (Yl.assign rfl) ?_
                refine WL.nil ?_
                refine Fin.then ?_
                refine Wp.seq ?_
                refine Wp.region ?_
                refine WL.val (v := .pointer (some ⟨g18, 0, none⟩)) rfl (Yl.move rfl) ?_
                refine WL.val (v := .pointer (some ⟨g38, 3, none⟩)) rfl (Yl.kern rfl rfl (fun _ => by kernel_rfl)) ?_
                refine WL.val (v := .int .i64 x30.xN) rfl (Yl.load rfl (Lds.one Try.isAgg3 (Cls.of (H167.cls (i := 3) rfl) rfl))) ?_
                have H168 : Own w (fun _ : Nat => False) w166 [rnet g18 (keys ls), blk g163 [.int .i64 0, .int .i64 0, .slice none 0 0] 37, net h ls, row A45 (List.length x30.xBytes) c46 (List.flatMap eB x30.xBytes) 5 1, blk g38 [.int .i64 x30.xDo, .int .i64 x30.xFrom, .int .i64 x30.xTo, .int .i64 x30.xN, .string ⟨List.toArray x30.xBytes⟩, .bool x30.xClone] 31] := H167.pick [4, 0, 1, 2, 3] (by decide) rfl
                obtain ⟨D169, HP170, ro171, bk172, rr173⟩ := Own.enter (L1 := [rnet g18 (keys ls)]) (L2 := [blk g163 [.int .i64 0, .int .i64 0, .slice none 0 0] 37, net h ls, row A45 (List.length x30.xBytes) c46 (List.flatMap eB x30.xBytes) 5 1, blk g38 [.int .i64 x30.xDo, .int .i64 x30.xFrom, .int .i64 x30.xTo, .int .i64 x30.xN, .string ⟨List.toArray x30.xBytes⟩, .bool x30.xClone] 31]) H168
                refine WL.do rfl (Do.call Try.call10 rfl (RTake_x g18 ls x30.xN _ _ HP170 hf qo140) ?_)
                rintro _ w174 ⟨rfl, HQ175⟩
                have H176 : Own w (fun _ : Nat => False) w174 [rnet g18 (keys ls), blk g163 [.int .i64 0, .int .i64 0, .slice none 0 0] 37, net h ls, row A45 (List.length x30.xBytes) c46 (List.flatMap eB x30.xBytes) 5 1, blk g38 [.int .i64 x30.xDo, .int .i64 x30.xFrom, .int .i64 x30.xTo, .int .i64 x30.xN, .string ⟨List.toArray x30.xBytes⟩, .bool x30.xClone] 31] := bk172 _ _ HQ175
                refine WL.val (v := .tuple #[.agg #[.int .i64 0, .int .i64 0, .string ⟨List.toArray ([])⟩], .int .i64 5]) rfl (Yl.move rfl) ?_
                refine WL.val (v := .agg #[.int .i64 0, .int .i64 0, .string ⟨List.toArray ([])⟩]) rfl (Yl.kern rfl rfl (fun _ => by kernel_rfl)) ?_
                refine WL.val (v := .int .i64 5) rfl (Yl.kern rfl rfl (fun _ => by kernel_rfl)) ?_
                refine WL.do rfl (Do.newP (cs := [.int .i64 0, .int .i64 0, .string ⟨List.toArray ([])⟩]) (t := 41) H176 rfl rfl (fun _ => by kernel_rfl) ?_)
                intro g177 w178 H179
                replace H179 : Own w (fun _ : Nat => False) w178 [blk g177 [.int .i64 0, .int .i64 0, .string ⟨List.toArray ([])⟩] 41, rnet g18 (keys ls), blk g163 [.int .i64 0, .int .i64 0, .slice none 0 0] 37, net h ls, row A45 (List.length x30.xBytes) c46 (List.flatMap eB x30.xBytes) 5 1, blk g38 [.int .i64 x30.xDo, .int .i64 x30.xFrom, .int .i64 x30.xTo, .int .i64 x30.xN, .string ⟨List.toArray x30.xBytes⟩, .bool x30.xClone] 31] := H179
                refine WL.do0 (Do.store (vs := [.int .i64 0, .int .i64 0, .string ⟨List.toArray ([])⟩]) (o := 0) H179 rfl rfl Try.sizeOf41 rfl rfl rfl rfl ?_)
                intro w180 H181
                replace H181 : Own w (fun _ : Nat => False) w180 [blk g177 [.int .i64 0, .int .i64 0, .string ⟨List.toArray ([])⟩] 41, rnet g18 (keys ls), blk g163 [.int .i64 0, .int .i64 0, .slice none 0 0] 37, net h ls, row A45 (List.length x30.xBytes) c46 (List.flatMap eB x30.xBytes) 5 1, blk g38 [.int .i64 x30.xDo, .int .i64 x30.xFrom, .int .i64 x30.xTo, .int .i64 x30.xN, .string ⟨List.toArray x30.xBytes⟩, .bool x30.xClone] 31] := H181
                refine WL.val (v := .int .i64 5) rfl (Yl.assign rfl) ?_
                refine WL.nil ?_
                refine Fin.then ?_
                refine Wp.region ?_
                refine WL.val (v := .pointer (some ⟨g163, 0, none⟩)) rfl (Yl.kern rfl rfl (fun _ => by kernel_rfl)) ?_
                refine WL.val (v := .int .i64 0) rfl (Yl.load rfl (Lds.one Try.isAgg3 (Cls.of (H181.cls (i := 2) rfl) rfl))) ?_
                refine WL.val (v := .pointer (some ⟨g177, 0, none⟩)) rfl (Yl.kern rfl rfl (fun _ => by kernel_rfl)) ?_
                refine WL.val (v := .int .i64 0) rfl (Yl.load rfl (Lds.one Try.isAgg3 (Cls.of (H181.cls (i := 0) rfl) rfl))) ?_
                refine WL.val (v := .bool true) rfl (Yl.kern rfl rfl (fun _ => by kernel_rfl)) ?_
                refine WL.val (v := .bool true) rfl (Yl.move rfl) ?_
                refine WL.valG (v := .pointer (some ⟨g163, 1, none⟩)) rfl rfl rfl rfl (Yl.kern rfl rfl (fun _ => by kernel_rfl)) ?_
                refine WL.valG (v := .int .i64 0) rfl rfl rfl rfl (Yl.load rfl (Lds.one Try.isAgg3 (Cls.of (H181.cls (i := 2) rfl) rfl))) ?_
                refine WL.valG (v := .pointer (some ⟨g177, 1, none⟩)) rfl rfl rfl rfl (Yl.kern rfl rfl (fun _ => by kernel_rfl)) ?_
                refine WL.valG (v := .int .i64 0) rfl rfl rfl rfl (Yl.load rfl (Lds.one Try.isAgg3 (Cls.of (H181.cls (i := 0) rfl) rfl))) ?_
                refine WL.valG (v := .bool true) rfl rfl rfl rfl (Yl.kern rfl rfl (fun _ => by kernel_rfl)) ?_
                refine WL.val (v := .bool true) rfl (Yl.pickT rfl rfl rfl) ?_
                refine WL.val (v := .bool true) rfl (Yl.move rfl) ?_
                refine WL.valG (v := .pointer (some ⟨g163, 2, none⟩)) rfl rfl rfl rfl (Yl.kern rfl rfl (fun _ => by kernel_rfl)) ?_
                refine WL.valG (v := .slice none 0 0) rfl rfl rfl rfl (Yl.load rfl (Lds.one Try.isAgg32 (Cls.of (H181.cls (i := 2) rfl) rfl))) ?_
                refine WL.valG (v := .string ⟨List.toArray ([])⟩) rfl rfl rfl rfl (Yl.toStringE (l := []) Try.underlying32 Try.underlying5 Try.underlying9 (Rds.nil _ _ _) rfl) ?_
                refine WL.valG (v := .pointer (some ⟨g177, 2, none⟩)) rfl rfl rfl rfl (Yl.kern rfl rfl (fun _ => by kernel_rfl)) ?_
                refine WL.valG (v := .string ⟨List.toArray ([])⟩) rfl rfl rfl rfl (Yl.load rfl (Lds.one Try.isAgg9 (Cls.of (H181.cls (i := 0) rfl) rfl))) ?_
                refine WL.valG (v := .bool true) rfl rfl rfl rfl (Yl.bool (e := decide (([]) = ([]))) (Yl.strEq rfl rfl) (by simp)) ?_
                refine WL.val (v := .bool true) rfl (Yl.pickT rfl rfl rfl) ?_
                refine WL.val (v := .bool true) rfl (Yl.move rfl) ?_
                refine WL.valG (v := .int .i64 5) rfl rfl rfl rfl (Yl.move rfl) ?_
                refine WL.valG (v := .int .i64 5) rfl rfl rfl rfl (Yl.move rfl) ?_
                refine WL.valG (v := .bool true) rfl rfl rfl rfl (Yl.kern rfl rfl (fun _ => by kernel_rfl)) ?_
                refine WL.val (v := .bool true) rfl (Yl.pickT rfl rfl rfl) ?_
                refine WL.val (v := .bool true) rfl (Yl.assign rfl) ?_
                refine WL.nil ?_
                refine Fin.blockN ?_
                have H182 : Own w (fun _ : Nat => False) w180 [net h ls, rnet g18 (keys ls), row A45 (List.length x30.xBytes) c46 (List.flatMap eB x30.xBytes) 5 1, blk g38 [.int .i64 x30.xDo, .int .i64 x30.xFrom, .int .i64 x30.xTo, .int .i64 x30.xN, .string ⟨List.toArray x30.xBytes⟩, .bool x30.xClone] 31] := H181.pick [3, 1, 4, 5] (by decide) rfl
                exact Fin.join ls ⟨rfl, rfl, rfl, rfl, rfl, rfl, rfl, rfl, rfl, rfl, rfl, rfl, rfl, rfl, rfl, rfl, rfl, rfl, rfl, rfl, rfl, rfl, rfl, rfl, rfl, rfl, rfl, rfl, rfl, rfl, rfl, rfl, rfl, trivial⟩ ⟨H182, hf⟩
            · skip
              refine Wp.cond0 rfl (decide_eq_false h126) ?_
              refine Wp.seq ?_
              refine Wp.region ?_
              refine WL.val (v := .bool (decide (x30.xDo = 2))) rfl (Yl.kern rfl rfl (fun _ => by kernel_rfl)) ?_
              refine WL.val (v := .bool (decide (x30.xDo = 2))) rfl (Yl.assign rfl) ?_
              refine WL.nil ?_
              refine Fin.then ?_
              by_cases h183 : x30.xDo = 2
              · skip
                refine Wp.cond1 rfl (decide_eq_true h183) ?_
                refine Wp.seq ?_
                refine Wp.region ?_
                refine WL.val (v := .pointer (some ⟨g18, 0, none⟩)) rfl (Yl.move rfl) ?_
                refine WL.val (v := .pointer (some ⟨g38, 3, none⟩)) rfl (Yl.kern rfl rfl (fun _ => by kernel_rfl)) ?_
                refine WL.val (v := .int .i64 x30.xN) rfl (Yl.load rfl (Lds.one Try.isAgg3 (Cls.of (H48.cls (i := 1) rfl) rfl))) ?_
                have H184 : Own w (fun _ : Nat => False) w47 [rnet g18 (keys ls), row A45 (List.length x30.xBytes) c46 (List.flatMap eB x30.xBytes) 5 1, blk g38 [.int .i64 x30.xDo, .int .i64 x30.xFrom, .int .i64 x30.xTo, .int .i64 x30.xN, .string ⟨List.toArray x30.xBytes⟩, .bool x30.xClone] 31, net h ls] := H48.pick [3, 0, 1, 2] (by decide) rfl
                obtain ⟨D185, HP186, ro187, bk188, rr189⟩ := Own.enter (L1 := [rnet g18 (keys ls)]) (L2 := [row A45 (List.length x30.xBytes) c46 (List.flatMap eB x30.xBytes) 5 1, blk g38 [.int .i64 x30.xDo, .int .i64 x30.xFrom, .int .i64 x30.xTo, .int .i64 x30.xN, .string ⟨List.toArray x30.xBytes⟩, .bool x30.xClone] 31, net h ls]) H184
                refine WL.do rfl (Do.call Try.call10 rfl (RTake_any g18 ls x30.xN _ _ HP186 hf) ?_)
                rintro _ w190 (⟨m192, l193, qi194, ql195, rfl, HQ191⟩ | ⟨qo197, rfl, HQ196⟩)
                · skip
                  have H198 : Own w (fun _ : Nat => False) w190 [rnet g18 (keys (List.eraseIdx ls m192)), row A45 (List.length x30.xBytes) c46 (List.flatMap eB x30.xBytes) 5 1, blk g38 [.int .i64 x30.xDo, .int .i64 x30.xFrom, .int .i64 x30.xTo, .int .i64 x30.xN, .string ⟨List.toArray x30.xBytes⟩, .bool x30.xClone] 31, net h ls] := bk188 _ _ HQ191
                  refine WL.val (v := .tuple #[.agg #[.int .i64 l193.fr, .int .i64 l193.to, .string ⟨List.toArray l193.bs⟩], .int .i64 0]) rfl (Yl.move rfl) ?_
                  refine WL.val (v := .agg #[.int .i64 l193.fr, .int .i64 l193.to, .string ⟨List.toArray l193.bs⟩]) rfl (Yl.kern rfl rfl (fun _ => by kernel_rfl)) ?_
                  refine WL.val (v := .int .i64 0) rfl (Yl.kern rfl rfl (fun _ => by kernel_rfl)) ?_
                  refine WL.do rfl (Do.newP (cs := [.int .i64 0, .int .i64 0, .string ⟨List.toArray ([])⟩]) (t := 41) H198 rfl rfl (fun _ => by kernel_rfl) ?_)
                  intro g199 w200 H201
                  replace H201 : Own w (fun _ : Nat => False) w200 [blk g199 [.int .i64 0, .int .i64 0, .string ⟨List.toArray ([])⟩] 41, rnet g18 (keys (List.eraseIdx ls m192)), row A45 (List.length x30.xBytes) c46 (List.flatMap eB x30.xBytes) 5 1, blk g38 [.int .i64 x30.xDo, .int .i64 x30.xFrom, .int .i64 x30.xTo, .int .i64 x30.xN, .string ⟨List.toArray x30.xBytes⟩, .bool x30.xClone] 31, net h ls] := H201
                  refine WL.do0 (Do.store (vs := [.int .i64 l193.fr, .int .i64 l193.to, .string ⟨List.toArray l193.bs⟩]) (o := 0) H201 rfl rfl Try.sizeOf41 rfl rfl rfl rfl ?_)
                  intro w202 H203
                  replace H203 : Own w (fun _ : Nat => False) w202 [blk g199 [.int .i64 l193.fr, .int .i64 l193.to, .string ⟨List.toArray l193.bs⟩] 41, rnet g18 (keys (List.eraseIdx ls m192)), row A45 (List.length x30.xBytes) c46 (List.flatMap eB x30.xBytes) 5 1, blk g38 [.int .i64 x30.xDo, .int .i64 x30.xFrom, .int .i64 x30.xTo, .int .i64 x30.xN, .string ⟨List.toArray x30.xBytes⟩, .bool x30.xClone] 31, net h ls] := H203
                  refine WL.val (v := .int .i64 0) rfl (Yl.assign rfl) ?_
                  refine WL.nil ?_
                  refine Fin.then ?_
                  refine Wp.region ?_
                  refine WL.val (v := .pointer (some ⟨h, 0, none⟩)) rfl (Yl.move rfl) ?_
                  refine WL.val (v := .pointer (some ⟨g38, 3, none⟩)) rfl (Yl.kern rfl rfl (fun _ => by kernel_rfl)) ?_
                  refine WL.val (v := .int .i64 x30.xN) rfl (Yl.load rfl (Lds.one Try.isAgg3 (Cls.of (H203.cls (i := 3) rfl) rfl))) ?_
                  have H204 : Own w (fun _ : Nat => False) w202 [net h ls, blk g199 [.int .i64 l193.fr, .int .i64 l193.to, .string ⟨List.toArray l193.bs⟩] 41, rnet g18 (keys (List.eraseIdx ls m192)), row A45 (List.length x30.xBytes) c46 (List.flatMap eB x30.xBytes) 5 1, blk g38 [.int .i64 x30.xDo, .int .i64 x30.xFrom, .int .i64 x30.xTo, .int .i64 x30.xN, .string ⟨List.toArray x30.xBytes⟩, .bool x30.xClone] 31] := H203.pick [4, 0, 1, 2, 3] (by decide) rfl
                  obtain ⟨D205, HP206, ro207, bk208, rr209⟩ := Own.enter (L1 := [net h ls]) (L2 := [blk g199 [.int .i64 l193.fr, .int .i64 l193.to, .string ⟨List.toArray l193.bs⟩] 41, rnet g18 (keys (List.eraseIdx ls m192)), row A45 (List.length x30.xBytes) c46 (List.flatMap eB x30.xBytes) 5 1, blk g38 [.int .i64 x30.xDo, .int .i64 x30.xFrom, .int .i64 x30.xTo, .int .i64 x30.xN, .string ⟨List.toArray x30.xBytes⟩, .bool x30.xClone] 31]) H204
                  refine WL.do rfl (Do.call Try.call11 rfl (Drop_k h ls x30.xN _ _ HP206 hf m192 l193 qi194 ql195) ?_)
                  rintro _ w210 ⟨rfl, HQ211⟩
                  have H212 : Own w (fun _ : Nat => False) w210 [net h (List.eraseIdx ls m192), blk g199 [.int .i64 l193.fr, .int .i64 l193.to, .string ⟨List.toArray l193.bs⟩] 41, rnet g18 (keys (List.eraseIdx ls m192)), row A45 (List.length x30.xBytes) c46 (List.flatMap eB x30.xBytes) 5 1, blk g38 [.int .i64 x30.xDo, .int .i64 x30.xFrom, .int .i64 x30.xTo, .int .i64 x30.xN, .string ⟨List.toArray x30.xBytes⟩, .bool x30.xClone] 31] := bk208 _ _ HQ211
                  refine WL.val (v := .int .i64 0) rfl (Yl.move rfl) ?_
                  refine WL.val (v := .bool true) rfl (Yl.kern rfl rfl (fun _ => by kernel_rfl)) ?_
                  refine WL.val (v := .bool true) rfl (Yl.assign rfl) ?_
                  refine WL.nil ?_
                  refine Fin.blockN ?_
                  have H213 : Own w (fun _ : Nat => False) w210 [net h (List.eraseIdx ls m192), rnet g18 (keys (List.eraseIdx ls m192)), row A45 (List.length x30.xBytes) c46 (List.flatMap eB x30.xBytes) 5 1, blk g38 [.int .i64 x30.xDo, .int .i64 x30.xFrom, .int .i64 x30.xTo, .int .i64 x30.xN, .string ⟨List.toArray x30.xBytes⟩, .bool x30.xClone] 31] := H212.pick [0, 2, 3, 4] (by decide) rfl
                  exact Fin.join (List.eraseIdx ls m192) ⟨rfl, rfl, rfl, rfl, rfl, rfl, rfl, rfl, rfl, rfl, rfl, rfl, rfl, rfl, rfl, rfl, rfl, rfl, rfl, rfl, rfl, rfl, rfl, rfl, rfl, rfl, rfl, rfl, rfl, rfl, rfl, rfl, rfl, trivial⟩ ⟨H213, hf.erase _⟩
                · skip
                  have H214 : Own w (fun _ : Nat => False) w190 [rnet g18 (keys ls), row A45 (List.length x30.xBytes) c46 (List.flatMap eB x30.xBytes) 5 1, blk g38 [.int .i64 x30.xDo, .int .i64 x30.xFrom, .int .i64 x30.xTo, .int .i64 x30.xN, .string ⟨List.toArray x30.xBytes⟩, .bool x30.xClone] 31, net h ls] := bk188 _ _ HQ196
                  refine WL.val (v := .tuple #[.agg #[.int .i64 0, .int .i64 0, .string ⟨List.toArray ([])⟩], .int .i64 5]) rfl (Yl.move rfl) ?_
                  refine WL.val (v := .agg #[.int .i64 0, .int .i64 0, .string ⟨List.toArray ([])⟩]) rfl (Yl.kern rfl rfl (fun _ => by kernel_rfl)) ?_
                  refine WL.val (v := .int .i64 5) rfl (Yl.kern rfl rfl (fun _ => by kernel_rfl)) ?_
                  refine WL.do rfl (Do.newP (cs := [.int .i64 0, .int .i64 0, .string ⟨List.toArray ([])⟩]) (t := 41) H214 rfl rfl (fun _ => by kernel_rfl) ?_)
                  intro g215 w216 H217
                  replace H217 : Own w (fun _ : Nat => False) w216 [blk g215 [.int .i64 0, .int .i64 0, .string ⟨List.toArray ([])⟩] 41, rnet g18 (keys ls), row A45 (List.length x30.xBytes) c46 (List.flatMap eB x30.xBytes) 5 1, blk g38 [.int .i64 x30.xDo, .int .i64 x30.xFrom, .int .i64 x30.xTo, .int .i64 x30.xN, .string ⟨List.toArray x30.xBytes⟩, .bool x30.xClone] 31, net h ls] := H217
                  refine WL.do0 (Do.store (vs := [.int .i64 0, .int .i64 0, .string ⟨List.toArray ([])⟩]) (o := 0) H217 rfl rfl Try.sizeOf41 rfl rfl rfl rfl ?_)
                  intro w218 H219
                  replace H219 : Own w (fun _ : Nat => False) w218 [blk g215 [.int .i64 0, .int .i64 0, .string ⟨List.toArray ([])⟩] 41, rnet g18 (keys ls), row A45 (List.length x30.xBytes) c46 (List.flatMap eB x30.xBytes) 5 1, blk g38 [.int .i64 x30.xDo, .int .i64 x30.xFrom, .int .i64 x30.xTo, .int .i64 x30.xN, .string ⟨List.toArray x30.xBytes⟩, .bool x30.xClone] 31, net h ls] := H219
                  refine WL.val (v := .int .i64 5) rfl (Yl.assign rfl) ?_
                  refine WL.nil ?_
                  refine Fin.then ?_
                  refine Wp.region ?_
                  refine WL.val (v := .pointer (some ⟨h, 0, none⟩)) rfl (Yl.move rfl) ?_
                  refine WL.val (v := .pointer (some ⟨g38, 3, none⟩)) rfl (Yl.kern rfl rfl (fun _ => by kernel_rfl)) ?_
                  refine WL.val (v := .int .i64 x30.xN) rfl (Yl.load rfl (Lds.one Try.isAgg3 (Cls.of (H219.cls (i := 3) rfl) rfl))) ?_
                  have H220 : Own w (fun _ : Nat => False) w218 [net h ls, blk g215 [.int .i64 0, .int .i64 0, .string ⟨List.toArray ([])⟩] 41, rnet g18 (keys ls), row A45 (List.length x30.xBytes) c46 (List.flatMap eB x30.xBytes) 5 1, blk g38 [.int .i64 x30.xDo, .int .i64 x30.xFrom, .int .i64 x30.xTo, .int .i64 x30.xN, .string ⟨List.toArray x30.xBytes⟩, .bool x30.xClone] 31] := H219.pick [4, 0, 1, 2, 3] (by decide) rfl
                  obtain ⟨D221, HP222, ro223, bk224, rr225⟩ := Own.enter (L1 := [net h ls]) (L2 := [blk g215 [.int .i64 0, .int .i64 0, .string ⟨List.toArray ([])⟩] 41, rnet g18 (keys ls), row A45 (List.length x30.xBytes) c46 (List.flatMap eB x30.xBytes) 5 1, blk g38 [.int .i64 x30.xDo, .int .i64 x30.xFrom, .int .i64 x30.xTo, .int .i64 x30.xN, .string ⟨List.toArray x30.xBytes⟩, .bool x30.xClone] 31]) H220
                  refine WL.do rfl (Do.call Try.call11 rfl (Drop_x h ls x30.xN _ _ HP222 hf qo197) ?_)
                  rintro _ w226 ⟨rfl, HQ227⟩
                  have H228 : Own w (fun _ : Nat => False) w226 [net h ls, blk g215 [.int .i64 0, .int .i64 0, .string ⟨List.toArray ([])⟩] 41, rnet g18 (keys ls), row A45 (List.length x30.xBytes) c46 (List.flatMap eB x30.xBytes) 5 1, blk g38 [.int .i64 x30.xDo, .int .i64 x30.xFrom, .int .i64 x30.xTo, .int .i64 x30.xN, .string ⟨List.toArray x30.xBytes⟩, .bool x30.xClone] 31] := bk224 _ _ HQ227
                  refine WL.val (v := .int .i64 5) rfl (Yl.move rfl) ?_
                  refine WL.val (v := .bool true) rfl (Yl.kern rfl rfl (fun _ => by kernel_rfl)) ?_
                  refine WL.val (v := .bool true) rfl (Yl.assign rfl) ?_
                  refine WL.nil ?_
                  refine Fin.blockN ?_
                  have H229 : Own w (fun _ : Nat => False) w226 [net h ls, rnet g18 (keys ls), row A45 (List.length x30.xBytes) c46 (List.flatMap eB x30.xBytes) 5 1, blk g38 [.int .i64 x30.xDo, .int .i64 x30.xFrom, .int .i64 x30.xTo, .int .i64 x30.xN, .string ⟨List.toArray x30.xBytes⟩, .bool x30.xClone] 31] := H228.pick [0, 2, 3, 4] (by decide) rfl
                  exact Fin.join ls ⟨rfl, rfl, rfl, rfl, rfl, rfl, rfl, rfl, rfl, rfl, rfl, rfl, rfl, rfl, rfl, rfl, rfl, rfl, rfl, rfl, rfl, rfl, rfl, rfl, rfl, rfl, rfl, rfl, rfl, rfl, rfl, rfl, rfl, trivial⟩ ⟨H229, hf⟩
              · skip
                refine Wp.cond0 rfl (decide_eq_false h183) ?_
                refine Wp.seq ?_
                refine Wp.region ?_
                refine WL.val (v := .bool (decide (x30.xDo = 3))) rfl (Yl.kern rfl rfl (fun _ => by kernel_rfl)) ?_
                refine WL.val (v := .bool (decide (x30.xDo = 3))) rfl (Yl.assign rfl) ?_
                refine WL.nil ?_
                refine Fin.then ?_
                by_cases h230 : x30.xDo = 3
                · skip
                  refine Wp.cond1 rfl (decide_eq_true h230) ?_
                  have H231 : Own w (fun _ : Nat => False) w47 [blk g38 [.int .i64 x30.xDo, .int .i64 x30.xFrom, .int .i64 x30.xTo, .int .i64 x30.xN, .string ⟨List.toArray x30.xBytes⟩, .bool x30.xClone] 31, row A45 (List.length x30.xBytes) c46 (List.flatMap eB x30.xBytes) 5 1, net h ls, rnet g18 (keys ls)] := H48.pick [1, 0, 2, 3] (by decide) rfl
                  have H233 := H231.drew
                  refine Wp.drawn (Keep [] (fun W => ∃ L', Own w (fun _ : Nat => False) W ([blk g38 [.int .i64 x30.xDo, .int .i64 x30.xFrom, .int .i64 x30.xTo, .int .i64 x30.xN, .string ⟨List.toArray x30.xBytes⟩, .bool x30.xClone] 31] ++ L'))) (by kernel_rfl) (.inr ⟨_, H233⟩) ?_
                  revert H233
                  generalize World.drew w47 = w232
                  intro H233
                  replace H233 : Own w (fun _ : Nat => False) w232 [blk g38 [.int .i64 x30.xDo, .int .i64 x30.xFrom, .int .i64 x30.xTo, .int .i64 x30.xN, .string ⟨List.toArray x30.xBytes⟩, .bool x30.xClone] 31, row A45 (List.length x30.xBytes) c46 (List.flatMap eB x30.xBytes) 5 1, net h ls, rnet g18 (keys ls)] := H233
                  show GW _ _ _ _ 10 #[false, false, false, false, false, false, false, false, false, false] _ _ _
                  refine GW.take (v := .pointer (some ⟨h, 0, none⟩)) (i := 0) (l' := #[true, false, false, false, false, false, false, false, false, false]) (rs := []) rfl (by kernel_rfl) rfl (NoP.block (NoP.then (NoP.block (NoP.then (NoP.then (NoP.block (NoP.then NoP.base))))))) (by kernel_rfl) (by kernel_rfl) (by kernel_rfl) (by kernel_rfl) (fun _ _ => Yl.move rfl) ?_
                  refine GW.take (v := .pointer (some ⟨g38, 3, none⟩)) (i := 1) (l' := #[true, true, false, false, false, false, false, false, false, false]) (rs := []) rfl (by kernel_rfl) rfl (NoP.block (NoP.then (NoP.block (NoP.then (NoP.then (NoP.block (NoP.then NoP.base))))))) (by kernel_rfl) (by kernel_rfl) (by kernel_rfl) (by kernel_rfl) (fun _ _ => Yl.kern rfl rfl (fun _ => by kernel_rfl)) ?_
                  refine GW.take (v := .int .i64 x30.xN) (i := 2) (l' := #[true, true, true, false, false, false, false, false, false, false]) (rs := []) rfl (by kernel_rfl) rfl (NoP.block (NoP.then (NoP.block (NoP.then (NoP.then (NoP.block (NoP.then NoP.base))))))) (by kernel_rfl) (by kernel_rfl) (by kernel_rfl) (by kernel_rfl) (fun _ ⟨_, H9⟩ => Yl.load rfl (Lds.one Try.isAgg3 (Cls.of (H9.cls (i := 0) rfl) rfl))) ?_
                  refine GW.take (v := .pointer (some ⟨g18, 0, none⟩)) (i := 4) (l' := #[true, true, true, false, true, false, false, false, false, false]) (rs := []) rfl (by kernel_rfl) rfl (NoP.block (NoP.then (NoP.block (NoP.then (NoP.then (NoP.block (NoP.then NoP.base))))))) (by kernel_rfl) (by kernel_rfl) (by kernel_rfl) (by kernel_rfl) (fun _ _ => Yl.move rfl) ?_
                  refine GW.take (v := .pointer (some ⟨g38, 3, none⟩)) (i := 5) (l' := #[true, true, true, false, true, true, false, false, false, false]) (rs := []) rfl (by kernel_rfl) rfl (NoP.block (NoP.then (NoP.block (NoP.then (NoP.then (NoP.block (NoP.then NoP.base))))))) (by kernel_rfl) (by kernel_rfl) (by kernel_rfl) (by kernel_rfl) (fun _ _ => Yl.kern rfl rfl (fun _ => by kernel_rfl)) ?_
                  refine GW.take (v := .int .i64 x30.xN) (i := 6) (l' := #[true, true, true, false, true, true, true, false, false, false]) (rs := []) rfl (by kernel_rfl) rfl (NoP.block (NoP.then (NoP.block (NoP.then (NoP.then (NoP.block (NoP.then NoP.base))))))) (by kernel_rfl) (by kernel_rfl) (by kernel_rfl) (by kernel_rfl) (fun _ ⟨_, H9⟩ => Yl.load rfl (Lds.one Try.isAgg3 (Cls.of (H9.cls (i := 0) rfl) rfl))) ?_
                  have H235 : Own w (fun _ : Nat => False) w232 [net h ls, blk g38 [.int .i64 x30.xDo, .int .i64 x30.xFrom, .int .i64 x30.xTo, .int .i64 x30.xN, .string ⟨List.toArray x30.xBytes⟩, .bool x30.xClone] 31, row A45 (List.length x30.xBytes) c46 (List.flatMap eB x30.xBytes) 5 1, rnet g18 (keys ls)] := H233.pick [2, 0, 1, 3] (by decide) rfl
                  obtain ⟨D236, HP237, ro238, bk239, rr240⟩ := Own.enter (L1 := [net h ls]) (L2 := [blk g38 [.int .i64 x30.xDo, .int .i64 x30.xFrom, .int .i64 x30.xTo, .int .i64 x30.xN, .string ⟨List.toArray x30.xBytes⟩, .bool x30.xClone] 31, row A45 (List.length x30.xBytes) c46 (List.flatMap eB x30.xBytes) 5 1, rnet g18 (keys ls)]) H235
                  refine GW.do (i := 3) (l' := #[true, true, true, true, true, true, true, false, false, false]) rfl rfl (by kernel_rfl) (by kernel_rfl) (Do.call Try.call12 rfl (Double_any h ls x30.xN _ _ HP237 hf) ?_)
                  rintro _ w241 (⟨m243, l244, qi245, ql246, qf247, rfl, HQ242⟩ | ⟨m249, l250, qi251, ql252, qf253, rfl, A254, c255, HQ248⟩ | ⟨qo257, rfl, HQ256⟩)
                  · skip
                    have H258 : Own w (fun _ : Nat => False) w241 [net h ls, blk g38 [.int .i64 x30.xDo, .int .i64 x30.xFrom, .int .i64 x30.xTo, .int .i64 x30.xN, .string ⟨List.toArray x30.xBytes⟩, .bool x30.xClone] 31, row A45 (List.length x30.xBytes) c46 (List.flatMap eB x30.xBytes) 5 1, rnet g18 (keys ls)] := bk239 _ _ HQ242
                    have H259 : Own w (fun _ : Nat => False) w241 [blk g38 [.int .i64 x30.xDo, .int .i64 x30.xFrom, .int .i64 x30.xTo, .int .i64 x30.xN, .string ⟨List.toArray x30.xBytes⟩, .bool x30.xClone] 31, net h ls, row A45 (List.length x30.xBytes) c46 (List.flatMap eB x30.xBytes) 5 1, rnet g18 (keys ls)] := H258.pick [1, 0, 2, 3] (by decide) rfl
                    refine ⟨.inr ⟨_, H259⟩, ?_⟩
                    show GW _ _ _ _ 3 #[true, true, true, true, true, true, true, false, false, false] _ _ _
                    have H260 : Own w (fun _ : Nat => False) w241 [rnet g18 (keys ls), blk g38 [.int .i64 x30.xDo, .int .i64 x30.xFrom, .int .i64 x30.xTo, .int .i64 x30.xN, .string ⟨List.toArray x30.xBytes⟩, .bool x30.xClone] 31, net h ls, row A45 (List.length x30.xBytes) c46 (List.flatMap eB x30.xBytes) 5 1] := H259.pick [3, 0, 1, 2] (by decide) rfl
                    obtain ⟨D261, HP262, ro263, bk264, rr265⟩ := Own.enter (L1 := [rnet g18 (keys ls)]) (L2 := [blk g38 [.int .i64 x30.xDo, .int .i64 x30.xFrom, .int .i64 x30.xTo, .int .i64 x30.xN, .string ⟨List.toArray x30.xBytes⟩, .bool x30.xClone] 31, net h ls, row A45 (List.length x30.xBytes) c46 (List.flatMap eB x30.xBytes) 5 1]) H260
                    refine GW.do (i := 7) (l' := #[true, true, true, true, true, true, true, true, false, false]) rfl rfl (by kernel_rfl) (by kernel_rfl) (Do.call Try.call13 rfl (RDouble_full g18 ls x30.xN _ _ HP262 hf m243 l244 qi245 ql246 qf247) ?_)
                    rintro _ w266 ⟨rfl, HQ267⟩
                    have H268 : Own w (fun _ : Nat => False) w266 [rnet g18 (keys ls), blk g38 [.int .i64 x30.xDo, .int .i64 x30.xFrom, .int .i64 x30.xTo, .int .i64 x30.xN, .string ⟨List.toArray x30.xBytes⟩, .bool x30.xClone] 31, net h ls, row A45 (List.length x30.xBytes) c46 (List.flatMap eB x30.xBytes) 5 1] := bk264 _ _ HQ267
                    have H269 : Own w (fun _ : Nat => False) w266 [blk g38 [.int .i64 x30.xDo, .int .i64 x30.xFrom, .int .i64 x30.xTo, .int .i64 x30.xN, .string ⟨List.toArray x30.xBytes⟩, .bool x30.xClone] 31, rnet g18 (keys ls), net h ls, row A45 (List.length x30.xBytes) c46 (List.flatMap eB x30.xBytes) 5 1] := H268.pick [1, 0, 2, 3] (by decide) rfl
                    refine ⟨.inr ⟨_, H269⟩, ?_⟩
                    show GW _ _ _ _ 2 #[true, true, true, true, true, true, true, true, false, false] _ _ _
                    refine GW.take (v := .bool true) (i := 8) (l' := #[true, true, true, true, true, true, true, true, true, false]) (rs := []) rfl (by kernel_rfl) rfl (NoP.block (NoP.then (NoP.block (NoP.then (NoP.then (NoP.block (NoP.then NoP.base))))))) (by kernel_rfl) (by kernel_rfl) (by kernel_rfl) (by kernel_rfl) (fun _ _ => Yl.kern rfl rfl (fun _ => by kernel_rfl)) ?_
                    refine GW.take (v := .bool true) (i := 9) (l' := #[true, true, true, true, true, true, true, true, true, true]) (rs := []) rfl (by kernel_rfl) rfl (NoP.block (NoP.then (NoP.block (NoP.then (NoP.then (NoP.block (NoP.then NoP.base))))))) (by kernel_rfl) (by kernel_rfl) (by kernel_rfl) (by kernel_rfl) (fun _ _ => Yl.assign rfl) ?_
                    refine GW.done (by kernel_rfl) ?_
                    refine Fin.blockN ?_
                    have H270 : Own w (fun _ : Nat => False) w266 [net h ls, rnet g18 (keys ls), row A45 (List.length x30.xBytes) c46 (List.flatMap eB x30.xBytes) 5 1, blk g38 [.int .i64 x30.xDo, .int .i64 x30.xFrom, .int .i64 x30.xTo, .int .i64 x30.xN, .string ⟨List.toArray x30.xBytes⟩, .bool x30.xClone] 31] := H269.pick [2, 1, 3, 0] (by decide) rfl
                    exact Fin.join ls ⟨rfl, rfl, rfl, rfl, rfl, rfl, rfl, rfl, rfl, rfl, rfl, rfl, rfl, rfl, rfl, rfl, rfl, rfl, rfl, rfl, rfl, rfl, rfl, rfl, rfl, rfl, rfl, rfl, rfl, rfl, rfl, rfl, rfl, trivial⟩ ⟨H270, hf⟩
                  · skip
                    have H271 : Own w (fun _ : Nat => False) w241 [net h (ls ++ [(Lt.mk l250.fr l250.to A254 c255 l250.bs)]), blk g38 [.int .i64 x30.xDo, .int .i64 x30.xFrom, .int .i64 x30.xTo, .int .i64 x30.xN, .string ⟨List.toArray x30.xBytes⟩, .bool x30.xClone] 31, row A45 (List.length x30.xBytes) c46 (List.flatMap eB x30.xBytes) 5 1, rnet g18 (keys ls)] := bk239 _ _ HQ248
                    have H272 : Own w (fun _ : Nat => False) w241 [blk g38 [.int .i64 x30.xDo, .int .i64 x30.xFrom, .int .i64 x30.xTo, .int .i64 x30.xN, .string ⟨List.toArray x30.xBytes⟩, .bool x30.xClone] 31, net h (ls ++ [(Lt.mk l250.fr l250.to A254 c255 l250.bs)]), row A45 (List.length x30.xBytes) c46 (List.flatMap eB x30.xBytes) 5 1, rnet g18 (keys ls)] := H271.pick [1, 0, 2, 3] (by decide) rfl
                    refine ⟨.inr ⟨_, H272⟩, ?_⟩
                    show GW _ _ _ _ 3 #[true, true, true, true, true, true, true, false, false, false] _ _ _
                    have H273 : Own w (fun _ : Nat => False) w241 [rnet g18 (keys ls), blk g38 [.int .i64 x30.xDo, .int .i64 x30.xFrom, .int .i64 x30.xTo, .int .i64 x30.xN, .string ⟨List.toArray x30.xBytes⟩, .bool x30.xClone] 31, net h (ls ++ [(Lt.mk l250.fr l250.to A254 c255 l250.bs)]), row A45 (List.length x30.xBytes) c46 (List.flatMap eB x30.xBytes) 5 1] := H272.pick [3, 0, 1, 2] (by decide) rfl
                    obtain ⟨D274, HP275, ro276, bk277, rr278⟩ := Own.enter (L1 := [rnet g18 (keys ls)]) (L2 := [blk g38 [.int .i64 x30.xDo, .int .i64 x30.xFrom, .int .i64 x30.xTo, .int .i64 x30.xN, .string ⟨List.toArray x30.xBytes⟩, .bool x30.xClone] 31, net h (ls ++ [(Lt.mk l250.fr l250.to A254 c255 l250.bs)]), row A45 (List.length x30.xBytes) c46 (List.flatMap eB x30.xBytes) 5 1]) H273
                    refine GW.do (i := 7) (l' := #[true, true, true, true, true, true, true, true, false, false]) rfl rfl (by kernel_rfl) (by kernel_rfl) (Do.call Try.call13 rfl (RDouble_k g18 ls x30.xN _ _ HP275 hf m249 l250 A254 c255 qi251 ql252 qf253) ?_)
                    rintro _ w279 ⟨rfl, HQ280⟩
                    have H281 : Own w (fun _ : Nat => False) w279 [rnet g18 (keys (ls ++ [(Lt.mk l250.fr l250.to A254 c255 l250.bs)])), blk g38 [.int .i64 x30.xDo, .int .i64 x30.xFrom, .int .i64 x30.xTo, .int .i64 x30.xN, .string ⟨List.toArray x30.xBytes⟩, .bool x30.xClone] 31, net h (ls ++ [(Lt.mk l250.fr l250.to A254 c255 l250.bs)]), row A45 (List.length x30.xBytes) c46 (List.flatMap eB x30.xBytes) 5 1] := bk277 _ _ HQ280
                    have H282 : Own w (fun _ : Nat => False) w279 [blk g38 [.int .i64 x30.xDo, .int .i64 x30.xFrom, .int .i64 x30.xTo, .int .i64 x30.xN, .string ⟨List.toArray x30.xBytes⟩, .bool x30.xClone] 31, rnet g18 (keys (ls ++ [(Lt.mk l250.fr l250.to A254 c255 l250.bs)])), net h (ls ++ [(Lt.mk l250.fr l250.to A254 c255 l250.bs)]), row A45 (List.length x30.xBytes) c46 (List.flatMap eB x30.xBytes) 5 1] := H281.pick [1, 0, 2, 3] (by decide) rfl
                    refine ⟨.inr ⟨_, H282⟩, ?_⟩
                    show GW _ _ _ _ 2 #[true, true, true, true, true, true, true, true, false, false] _ _ _
                    refine GW.take (v := .bool true) (i := 8) (l' := #[true, true, true, true, true, true, true, true, true, false]) (rs := []) rfl (by kernel_rfl) rfl (NoP.block (NoP.then (NoP.block (NoP.then (NoP.then (NoP.block (NoP.then NoP.base))))))) (by kernel_rfl) (by kernel_rfl) (by kernel_rfl) (by kernel_rfl) (fun _ _ => Yl.kern rfl rfl (fun _ => by kernel_rfl)) ?_
                    refine GW.take (v := .bool true) (i := 9) (l' := #[true, true, true, true, true, true, true, true, true, true]) (rs := []) rfl (by kernel_rfl) rfl (NoP.block (NoP.then (NoP.block (NoP.then (NoP.then (NoP.block (NoP.then NoP.base))))))) (by kernel_rfl) (by kernel_rfl) (by kernel_rfl) (by kernel_rfl) (fun _ _ => Yl.assign rfl) ?_
                    refine GW.done (by kernel_rfl) ?_
                    refine Fin.blockN ?_
                    have H283 : Own w (fun _ : Nat => False) w279 [net h (ls ++ [(Lt.mk l250.fr l250.to A254 c255 l250.bs)]), rnet g18 (keys (ls ++ [(Lt.mk l250.fr l250.to A254 c255 l250.bs)])), row A45 (List.length x30.xBytes) c46 (List.flatMap eB x30.xBytes) 5 1, blk g38 [.int .i64 x30.xDo, .int .i64 x30.xFrom, .int .i64 x30.xTo, .int .i64 x30.xN, .string ⟨List.toArray x30.xBytes⟩, .bool x30.xClone] 31] := H282.pick [2, 1, 3, 0] (by decide) rfl
                    exact Fin.join (ls ++ [(Lt.mk l250.fr l250.to A254 c255 l250.bs)]) ⟨rfl, rfl, rfl, rfl, rfl, rfl, rfl, rfl, rfl, rfl, rfl, rfl, rfl, rfl, rfl, rfl, rfl, rfl, rfl, rfl, rfl, rfl, rfl, rfl, rfl, rfl, rfl, rfl, rfl, rfl, rfl, rfl, rfl, trivial⟩ ⟨H283, hf.push (by omega) _ _ _ _ _ (hf.at_ ql252).1 (hf.at_ ql252).2.1 (hf.at_ ql252).2.2⟩
                  · skip
                    have H284 : Own w (fun _ : Nat => False) w241 [net h ls, blk g38 [.int .i64 x30.xDo, .int .i64 x30.xFrom, .int .i64 x30.xTo, .int .i64 x30.xN, .string ⟨List.toArray x30.xBytes⟩, .bool x30.xClone] 31, row A45 (List.length x30.xBytes) c46 (List.flatMap eB x30.xBytes) 5 1, rnet g18 (keys ls)] := bk239 _ _ HQ256
                    have H285 : Own w (fun _ : Nat => False) w241 [blk g38 [.int .i64 x30.xDo, .int .i64 x30.xFrom, .int .i64 x30.xTo, .int .i64 x30.xN, .string ⟨List.toArray x30.xBytes⟩, .bool x30.xClone] 31, net h ls, row A45 (List.length x30.xBytes) c46 (List.flatMap eB x30.xBytes) 5 1, rnet g18 (keys ls)] := H284.pick [1, 0, 2, 3] (by decide) rfl
                    refine ⟨.inr ⟨_, H285⟩, ?_⟩
                    show GW _ _ _ _ 3 #[true, true, true, true, true, true, true, false, false, false] _ _ _
                    have H286 : Own w (fun _ : Nat => False) w241 [rnet g18 (keys ls), blk g38 [.int .i64 x30.xDo, .int .i64 x30.xFrom, .int .i64 x30.xTo, .int .i64 x30.xN, .string ⟨List.toArray x30.xBytes⟩, .bool x30.xClone] 31, net h ls, row A45 (List.length x30.xBytes) c46 (List.flatMap eB x30.xBytes) 5 1] := H285.pick [3, 0, 1, 2] (by decide) rfl
                    obtain ⟨D287, HP288, ro289, bk290, rr291⟩ := Own.enter (L1 := [rnet g18 (keys ls)]) (L2 := [blk g38 [.int .i64 x30.xDo, .int .i64 x30.xFrom, .int .i64 x30.xTo, .int .i64 x30.xN, .string ⟨List.toArray x30.xBytes⟩, .bool x30.xClone] 31, net h ls, row A45 (List.length x30.xBytes) c46 (List.flatMap eB x30.xBytes) 5 1]) H286
                    refine GW.do (i := 7) (l' := #[true, true, true, true, true, true, true, true, false, false]) rfl rfl (by kernel_rfl) (by kernel_rfl) (Do.call Try.call13 rfl (RDouble_x g18 ls x30.xN _ _ HP288 hf qo257) ?_)
                    rintro _ w292 ⟨rfl, HQ293⟩
                    have H294 : Own w (fun _ : Nat => False) w292 [rnet g18 (keys ls), blk g38 [.int .i64 x30.xDo, .int .i64 x30.xFrom, .int .i64 x30.xTo, .int .i64 x30.xN, .string ⟨List.toArray x30.xBytes⟩, .bool x30.xClone] 31, net h ls, row A45 (List.length x30.xBytes) c46 (List.flatMap eB x30.xBytes) 5 1] := bk290 _ _ HQ293
                    have H295 : Own w (fun _ : Nat => False) w292 [blk g38 [.int .i64 x30.xDo, .int .i64 x30.xFrom, .int .i64 x30.xTo, .int .i64 x30.xN, .string ⟨List.toArray x30.xBytes⟩, .bool x30.xClone] 31, rnet g18 (keys ls), net h ls, row A45 (List.length x30.xBytes) c46 (List.flatMap eB x30.xBytes) 5 1] := H294.pick [1, 0, 2, 3] (by decide) rfl
                    refine ⟨.inr ⟨_, H295⟩, ?_⟩
                    show GW _ _ _ _ 2 #[true, true, true, true, true, true, true, true, false, false] _ _ _
                    refine GW.take (v := .bool true) (i := 8) (l' := #[true, true, true, true, true, true, true, true, true, false]) (rs := []) rfl (by kernel_rfl) rfl (NoP.block (NoP.then (NoP.block (NoP.then (NoP.then (NoP.block (NoP.then NoP.base))))))) (by kernel_rfl) (by kernel_rfl) (by kernel_rfl) (by kernel_rfl) (fun _ _ => Yl.kern rfl rfl (fun _ => by kernel_rfl)) ?_
                    refine GW.take (v := .bool true) (i := 9) (l' := #[true, true, true, true, true, true, true, true, true, true]) (rs := []) rfl (by kernel_rfl) rfl (NoP.block (NoP.then (NoP.block (NoP.then (NoP.then (NoP.block (NoP.then NoP.base))))))) (by kernel_rfl) (by kernel_rfl) (by kernel_rfl) (by kernel_rfl) (fun _ _ => Yl.assign rfl) ?_
                    refine GW.done (by kernel_rfl) ?_
                    refine Fin.blockN ?_
                    have H296 : Own w (fun _ : Nat => False) w292 [net h ls, rnet g18 (keys ls), row A45 (List.length x30.xBytes) c46 (List.flatMap eB x30.xBytes) 5 1, blk g38 [.int .i64 x30.xDo, .int .i64 x30.xFrom, .int .i64 x30.xTo, .int .i64 x30.xN, .string ⟨List.toArray x30.xBytes⟩, .bool x30.xClone] 31] := H295.pick [2, 1, 3, 0] (by decide) rfl
                    exact Fin.join ls ⟨rfl, rfl, rfl, rfl, rfl, rfl, rfl, rfl, rfl, rfl, rfl, rfl, rfl, rfl, rfl, rfl, rfl, rfl, rfl, rfl, rfl, rfl, rfl, rfl, rfl, rfl, rfl, rfl, rfl, rfl, rfl, rfl, rfl, trivial⟩ ⟨H296, hf⟩
                · skip
                  refine Wp.cond0 rfl (decide_eq_false h230) ?_
                  refine Wp.seq ?_
                  refine Wp.region ?_
                  refine WL.val (v := .bool (decide (x30.xDo = 4))) rfl (Yl.kern rfl rfl (fun _ => by kernel_rfl)) ?_
                  refine WL.val (v := .bool (decide (x30.xDo = 4))) rfl (Yl.assign rfl) ?_
                  refine WL.nil ?_
                  refine Fin.then ?_
                  by_cases h297 : x30.xDo = 4
                  · skip
                    refine Wp.cond1 rfl (decide_eq_true h297) ?_
                    have H298 : Own w (fun _ : Nat => False) w47 [blk g38 [.int .i64 x30.xDo, .int .i64 x30.xFrom, .int .i64 x30.xTo, .int .i64 x30.xN, .string ⟨List.toArray x30.xBytes⟩, .bool x30.xClone] 31, row A45 (List.length x30.xBytes) c46 (List.flatMap eB x30.xBytes) 5 1, net h ls, rnet g18 (keys ls)] := H48.pick [1, 0, 2, 3] (by decide) rfl
                    have H300 := H298.drew
                    refine Wp.drawn (Keep [] (fun W => ∃ L', Own w (fun _ : Nat => False) W ([blk g38 [.int .i64 x30.xDo, .int .i64 x30.xFrom, .int .i64 x30.xTo, .int .i64 x30.xN, .string ⟨List.toArray x30.xBytes⟩, .bool x30.xClone] 31, row A45 (List.length x30.xBytes) c46 (List.flatMap eB x30.xBytes) 5 1] ++ L'))) (by kernel_rfl) (.inr ⟨_, H300⟩) ?_
                    revert H300
                    generalize World.drew w47 = w299
                    intro H300
                    replace H300 : Own w (fun _ : Nat => False) w299 [blk g38 [.int .i64 x30.xDo, .int .i64 x30.xFrom, .int .i64 x30.xTo, .int .i64 x30.xN, .string ⟨List.toArray x30.xBytes⟩, .bool x30.xClone] 31, row A45 (List.length x30.xBytes) c46 (List.flatMap eB x30.xBytes) 5 1, net h ls, rnet g18 (keys ls)] := H300
                    show GW _ _ _ _ 13 #[false, false, false, false, false, false, false, false, false, false, false, false, false] _ _ _
                    refine GW.take (v := .pointer (some ⟨h, 0, none⟩)) (i := 0) (l' := #[true, false, false, false, false, false, false, false, false, false, false, false, false]) (rs := []) rfl (by kernel_rfl) rfl (NoP.block (NoP.then (NoP.block (NoP.then (NoP.then (NoP.block (NoP.then NoP.base))))))) (by kernel_rfl) (by kernel_rfl) (by kernel_rfl) (by kernel_rfl) (fun _ _ => Yl.move rfl) ?_
                    refine GW.take (v := .pointer (some ⟨g38, 3, none⟩)) (i := 1) (l' := #[true, true, false, false, false, false, false, false, false, false, false, false, false]) (rs := []) rfl (by kernel_rfl) rfl (NoP.block (NoP.then (NoP.block (NoP.then (NoP.then (NoP.block (NoP.then NoP.base))))))) (by kernel_rfl) (by kernel_rfl) (by kernel_rfl) (by kernel_rfl) (fun _ _ => Yl.kern rfl rfl (fun _ => by kernel_rfl)) ?_
                    refine GW.take (v := .int .i64 x30.xN) (i := 2) (l' := #[true, true, true, false, false, false, false, false, false, false, false, false, false]) (rs := []) rfl (by kernel_rfl) rfl (NoP.block (NoP.then (NoP.block (NoP.then (NoP.then (NoP.block (NoP.then NoP.base))))))) (by kernel_rfl) (by kernel_rfl) (by kernel_rfl) (by kernel_rfl) (fun _ ⟨_, H9⟩ => Yl.load rfl (Lds.one Try.isAgg3 (Cls.of (H9.cls (i := 0) rfl) rfl))) ?_
                    refine GW.take (v := .slice A45 (List.length x30.xBytes) c46) (i := 3) (l' := #[true, true, true, true, false, false, false, false, false, false, false, false, false]) (rs := []) rfl (by kernel_rfl) rfl (NoP.block (NoP.then (NoP.block (NoP.then (NoP.then (NoP.block (NoP.then NoP.base))))))) (by kernel_rfl) (by kernel_rfl) (by kernel_rfl) (by kernel_rfl) (fun _ _ => Yl.move rfl) ?_
                    refine GW.take (v := .pointer (some ⟨g18, 0, none⟩)) (i := 5) (l' := #[true, true, true, true, false, true, false, false, false, false, false, false, false]) (rs := []) rfl (by kernel_rfl) rfl (NoP.block (NoP.then (NoP.block (NoP.then (NoP.then (NoP.block (NoP.then NoP.base))))))) (by kernel_rfl) (by kernel_rfl) (by kernel_rfl) (by kernel_rfl) (fun _ _ => Yl.move rfl) ?_
                    refine GW.take (v := .pointer (some ⟨g38, 3, none⟩)) (i := 6) (l' := #[true, true, true, true, false, true, true, false, false, false, false, false, false]) (rs := []) rfl (by kernel_rfl) rfl (NoP.block (NoP.then (NoP.block (NoP.then (NoP.then (NoP.block (NoP.then NoP.base))))))) (by kernel_rfl) (by kernel_rfl) (by kernel_rfl) (by kernel_rfl) (fun _ _ => Yl.kern rfl rfl (fun _ => by kernel_rfl)) ?_
                    refine GW.take (v := .int .i64 x30.xN) (i := 7) (l' := #[true, true, true, true, false, true, true, true, false, false, false, false, false]) (rs := []) rfl (by kernel_rfl) rfl (NoP.block (NoP.then (NoP.block (NoP.then (NoP.then (NoP.block (NoP.then NoP.base))))))) (by kernel_rfl) (by kernel_rfl) (by kernel_rfl) (by kernel_rfl) (fun _ ⟨_, H9⟩ => Yl.load rfl (Lds.one Try.isAgg3 (Cls.of (H9.cls (i := 0) rfl) rfl))) ?_
                    refine GW.take (v := .pointer (some ⟨g38, 4, none⟩)) (i := 8) (l' := #[true, true, true, true, false, true, true, true, true, false, false, false, false]) (rs := []) rfl (by kernel_rfl) rfl (NoP.block (NoP.then (NoP.block (NoP.then (NoP.then (NoP.block (NoP.then NoP.base))))))) (by kernel_rfl) (by kernel_rfl) (by kernel_rfl) (by kernel_rfl) (fun _ _ => Yl.kern rfl rfl (fun _ => by kernel_rfl)) ?_
                    refine GW.take (v := .string ⟨List.toArray x30.xBytes⟩) (i := 9) (l' := #[true, true, true, true, false, true, true, true, true, true, false, false, false]) (rs := []) rfl (by kernel_rfl) rfl (NoP.block (NoP.then (NoP.block (NoP.then (NoP.then (NoP.block (NoP.then NoP.base))))))) (by kernel_rfl) (by kernel_rfl) (by kernel_rfl) (by kernel_rfl) (fun _ ⟨_, H9⟩ => Yl.load rfl (Lds.one Try.isAgg9 (Cls.of (H9.cls (i := 0) rfl) rfl))) ?_
                    have H302 : Own w (fun _ : Nat => False) w299 [net h ls, blk g38 [.int .i64 x30.xDo, .int .i64 x30.xFrom, .int .i64 x30.xTo, .int .i64 x30.xN, .string ⟨List.toArray x30.xBytes⟩, .bool x30.xClone] 31, row A45 (List.length x30.xBytes) c46 (List.flatMap eB x30.xBytes) 5 1, rnet g18 (keys ls)] := H300.pick [2, 0, 1, 3] (by decide) rfl
                    obtain ⟨D303, HP304, ro305, bk306, rr307⟩ := Own.enter (L1 := [net h ls]) (L2 := [blk g38 [.int .i64 x30.xDo, .int .i64 x30.xFrom, .int .i64 x30.xTo, .int .i64 x30.xN, .string ⟨List.toArray x30.xBytes⟩, .bool x30.xClone] 31, row A45 (List.length x30.xBytes) c46 (List.flatMap eB x30.xBytes) 5 1, rnet g18 (keys ls)]) H302
                    refine GW.do (i := 4) (l' := #[true, true, true, true, true, true, true, true, true, true, false, false, false]) rfl rfl (by kernel_rfl) (by kernel_rfl) (Do.call Try.call14 rfl (Spoil_any h ls x30.xN _ _ HP304 hf A45 c46 x30.xBytes (rr307 _ 1 _ rfl row_rds)) ?_)
                    rintro _ w308 (⟨m310, l311, qi312, ql313, qf314, rfl, HQ309⟩ | ⟨m316, l317, qi318, ql319, qf320, rfl, A321, c322, HQ315⟩ | ⟨qo324, rfl, HQ323⟩)
                    · skip
                      have H325 : Own w (fun _ : Nat => False) w308 [net h ls, blk g38 [.int .i64 x30.xDo, .int .i64 x30.xFrom, .int .i64 x30.xTo, .int .i64 x30.xN, .string ⟨List.toArray x30.xBytes⟩, .bool x30.xClone] 31, row A45 (List.length x30.xBytes) c46 (List.flatMap eB x30.xBytes) 5 1, rnet g18 (keys ls)] := bk306 _ _ HQ309
                      have H326 : Own w (fun _ : Nat => False) w308 [blk g38 [.int .i64 x30.xDo, .int .i64 x30.xFrom, .int .i64 x30.xTo, .int .i64 x30.xN, .string ⟨List.toArray x30.xBytes⟩, .bool x30.xClone] 31, row A45 (List.length x30.xBytes) c46 (List.flatMap eB x30.xBytes) 5 1, net h ls, rnet g18 (keys ls)] := H325.pick [1, 2, 0, 3] (by decide) rfl
                      refine ⟨.inr ⟨_, H326⟩, ?_⟩
                      show GW _ _ _ _ 3 #[true, true, true, true, true, true, true, true, true, true, false, false, false] _ _ _
                      have H327 : Own w (fun _ : Nat => False) w308 [rnet g18 (keys ls), blk g38 [.int .i64 x30.xDo, .int .i64 x30.xFrom, .int .i64 x30.xTo, .int .i64 x30.xN, .string ⟨List.toArray x30.xBytes⟩, .bool x30.xClone] 31, row A45 (List.length x30.xBytes) c46 (List.flatMap eB x30.xBytes) 5 1, net h ls] := H326.pick [3, 0, 1, 2] (by decide) rfl
                      obtain ⟨D328, HP329, ro330, bk331, rr332⟩ := Own.enter (L1 := [rnet g18 (keys ls)]) (L2 := [blk g38 [.int .i64 x30.xDo, .int .i64 x30.xFrom, .int .i64 x30.xTo, .int .i64 x30.xN, .string ⟨List.toArray x30.xBytes⟩, .bool x30.xClone] 31, row A45 (List.length x30.xBytes) c46 (List.flatMap eB x30.xBytes) 5 1, net h ls]) H327
                      refine GW.do (i := 10) (l' := #[true, true, true, true, true, true, true, true, true, true, true, false, false]) rfl rfl (by kernel_rfl) (by kernel_rfl) (Do.call Try.call15 rfl (RSpoil_long g18 ls x30.xN _ _ HP329 hf m310 l311 x30.xBytes qi312 ql313 qf314) ?_)
                      rintro _ w333 ⟨rfl, HQ334⟩
                      have H335 : Own w (fun _ : Nat => False) w333 [rnet g18 (keys ls), blk g38 [.int .i64 x30.xDo, .int .i64 x30.xFrom, .int .i64 x30.xTo, .int .i64 x30.xN, .string ⟨List.toArray x30.xBytes⟩, .bool x30.xClone] 31, row A45 (List.length x30.xBytes) c46 (List.flatMap eB x30.xBytes) 5 1, net h ls] := bk331 _ _ HQ334
                      have H336 : Own w (fun _ : Nat => False) w333 [blk g38 [.int .i64 x30.xDo, .int .i64 x30.xFrom, .int .i64 x30.xTo, .int .i64 x30.xN, .string ⟨List.toArray x30.xBytes⟩, .bool x30.xClone] 31, row A45 (List.length x30.xBytes) c46 (List.flatMap eB x30.xBytes) 5 1, rnet g18 (keys ls), net h ls] := H335.pick [1, 2, 0, 3] (by decide) rfl
                      refine ⟨.inr ⟨_, H336⟩, ?_⟩
                      show GW _ _ _ _ 2 #[true, true, true, true, true, true, true, true, true, true, true, false, false] _ _ _
                      refine GW.take (v := .bool true) (i := 11) (l' := #[true, true, true, true, true, true, true, true, true, true, true, true, false]) (rs := []) rfl (by kernel_rfl) rfl (NoP.block (NoP.then (NoP.block (NoP.then (NoP.then (NoP.block (NoP.then NoP.base))))))) (by kernel_rfl) (by kernel_rfl) (by kernel_rfl) (by kernel_rfl) (fun _ _ => Yl.kern rfl rfl (fun _ => by kernel_rfl)) ?_
                      refine GW.take (v := .bool true) (i := 12) (l' := #[true, true, true, true, true, true, true, true, true, true, true, true, true]) (rs := []) rfl (by kernel_rfl) rfl (NoP.block (NoP.then (NoP.block (NoP.then (NoP.then (NoP.block (NoP.then NoP.base))))))) (by kernel_rfl) (by kernel_rfl) (by kernel_rfl) (by kernel_rfl) (fun _ _ => Yl.assign rfl) ?_
                      refine GW.done (by kernel_rfl) ?_
                      refine Fin.blockN ?_
                      have H337 : Own w (fun _ : Nat => False) w333 [net h ls, rnet g18 (keys ls), row A45 (List.length x30.xBytes) c46 (List.flatMap eB x30.xBytes) 5 1, blk g38 [.int .i64 x30.xDo, .int .i64 x30.xFrom, .int .i64 x30.xTo, .int .i64 x30.xN, .string ⟨List.toArray x30.xBytes⟩, .bool x30.xClone] 31] := H336.pick [3, 2, 1, 0] (by decide) rfl
                      exact Fin.join ls ⟨rfl, rfl, rfl, rfl, rfl, rfl, rfl, rfl, rfl, rfl, rfl, rfl, rfl, rfl, rfl, rfl, rfl, rfl, rfl, rfl, rfl, rfl, rfl, rfl, rfl, rfl, rfl, rfl, rfl, rfl, rfl, rfl, rfl, trivial⟩ ⟨H337, hf⟩
                    · skip
                      have H338 : Own w (fun _ : Nat => False) w308 [net h (List.set ls m316 (Lt.mk l317.fr l317.to A321 c322 x30.xBytes)), blk g38 [.int .i64 x30.xDo, .int .i64 x30.xFrom, .int .i64 x30.xTo, .int .i64 x30.xN, .string ⟨List.toArray x30.xBytes⟩, .bool x30.xClone] 31, row A45 (List.length x30.xBytes) c46 (List.flatMap eB x30.xBytes) 5 1, rnet g18 (keys ls)] := bk306 _ _ HQ315
                      have H339 : Own w (fun _ : Nat => False) w308 [blk g38 [.int .i64 x30.xDo, .int .i64 x30.xFrom, .int .i64 x30.xTo, .int .i64 x30.xN, .string ⟨List.toArray x30.xBytes⟩, .bool x30.xClone] 31, row A45 (List.length x30.xBytes) c46 (List.flatMap eB x30.xBytes) 5 1, net h (List.set ls m316 (Lt.mk l317.fr l317.to A321 c322 x30.xBytes)), rnet g18 (keys ls)] := H338.pick [1, 2, 0, 3] (by decide) rfl
                      refine ⟨.inr ⟨_, H339⟩, ?_⟩
                      show GW _ _ _ _ 3 #[true, true, true, true, true, true, true, true, true, true, false, false, false] _ _ _
                      have H340 : Own w (fun _ : Nat => False) w308 [rnet g18 (keys ls), blk g38 [.int .i64 x30.xDo, .int .i64 x30.xFrom, .int .i64 x30.xTo, .int .i64 x30.xN, .string ⟨List.toArray x30.xBytes⟩, .bool x30.xClone] 31, row A45 (List.length x30.xBytes) c46 (List.flatMap eB x30.xBytes) 5 1, net h (List.set ls m316 (Lt.mk l317.fr l317.to A321 c322 x30.xBytes))] := H339.pick [3, 0, 1, 2] (by decide) rfl
                      obtain ⟨D341, HP342, ro343, bk344, rr345⟩ := Own.enter (L1 := [rnet g18 (keys ls)]) (L2 := [blk g38 [.int .i64 x30.xDo, .int .i64 x30.xFrom, .int .i64 x30.xTo, .int .i64 x30.xN, .string ⟨List.toArray x30.xBytes⟩, .bool x30.xClone] 31, row A45 (List.length x30.xBytes) c46 (List.flatMap eB x30.xBytes) 5 1, net h (List.set ls m316 (Lt.mk l317.fr l317.to A321 c322 x30.xBytes))]) H340
                      refine GW.do (i := 10) (l' := #[true, true, true, true, true, true, true, true, true, true, true, false, false]) rfl rfl (by kernel_rfl) (by kernel_rfl) (Do.call Try.call15 rfl (RSpoil_k g18 ls x30.xN _ _ HP342 hf m316 l317 A321 c322 x30.xBytes qi318 ql319 qf320) ?_)
                      rintro _ w346 ⟨rfl, HQ347⟩
                      have H348 : Own w (fun _ : Nat => False) w346 [rnet g18 (keys (List.set ls m316 (Lt.mk l317.fr l317.to A321 c322 x30.xBytes))), blk g38 [.int .i64 x30.xDo, .int .i64 x30.xFrom, .int .i64 x30.xTo, .int .i64 x30.xN, .string ⟨List.toArray x30.xBytes⟩, .bool x30.xClone] 31, row A45 (List.length x30.xBytes) c46 (List.flatMap eB x30.xBytes) 5 1, net h (List.set ls m316 (Lt.mk l317.fr l317.to A321 c322 x30.xBytes))] := bk344 _ _ HQ347
                      have H349 : Own w (fun _ : Nat => False) w346 [blk g38 [.int .i64 x30.xDo, .int .i64 x30.xFrom, .int .i64 x30.xTo, .int .i64 x30.xN, .string ⟨List.toArray x30.xBytes⟩, .bool x30.xClone] 31, row A45 (List.length x30.xBytes) c46 (List.flatMap eB x30.xBytes) 5 1, rnet g18 (keys (List.set ls m316 (Lt.mk l317.fr l317.to A321 c322 x30.xBytes))), net h (List.set ls m316 (Lt.mk l317.fr l317.to A321 c322 x30.xBytes))] := H348.pick [1, 2, 0, 3] (by decide) rfl
                      refine ⟨.inr ⟨_, H349⟩, ?_⟩
                      show GW _ _ _ _ 2 #[true, true, true, true, true, true, true, true, true, true, true, false, false] _ _ _
                      refine GW.take (v := .bool true) (i := 11) (l' := #[true, true, true, true, true, true, true, true, true, true, true, true, false]) (rs := []) rfl (by kernel_rfl) rfl (NoP.block (NoP.then (NoP.block (NoP.then (NoP.then (NoP.block (NoP.then NoP.base))))))) (by kernel_rfl) (by kernel_rfl) (by kernel_rfl) (by kernel_rfl) (fun _ _ => Yl.kern rfl rfl (fun _ => by kernel_rfl)) ?_
                      refine GW.take (v := .bool true) (i := 12) (l' := #[true, true, true, true, true, true, true, true, true, true, true, true, true]) (rs := []) rfl (by kernel_rfl) rfl (NoP.block (NoP.then (NoP.block (NoP.then (NoP.then (NoP.block (NoP.then NoP.base))))))) (by kernel_rfl) (by kernel_rfl) (by kernel_rfl) (by kernel_rfl) (fun _ _ => Yl.assign rfl) ?_
                      refine GW.done (by kernel_rfl) ?_
                      refine Fin.blockN ?_
                      have H350 : Own w (fun _ : Nat => False) w346 [net h (List.set ls m316 (Lt.mk l317.fr l317.to A321 c322 x30.xBytes)), rnet g18 (keys (List.set ls m316 (Lt.mk l317.fr l317.to A321 c322 x30.xBytes))), row A45 (List.length x30.xBytes) c46 (List.flatMap eB x30.xBytes) 5 1, blk g38 [.int .i64 x30.xDo, .int .i64 x30.xFrom, .int .i64 x30.xTo, .int .i64 x30.xN, .string ⟨List.toArray x30.xBytes⟩, .bool x30.xClone] 31] := H349.pick [3, 2, 1, 0] (by decide) rfl
                      exact Fin.join (List.set ls m316 (Lt.mk l317.fr l317.to A321 c322 x30.xBytes)) ⟨rfl, rfl, rfl, rfl, rfl, rfl, rfl, rfl, rfl, rfl, rfl, rfl, rfl, rfl, rfl, rfl, rfl, rfl, rfl, rfl, rfl, rfl, rfl, rfl, rfl, rfl, rfl, rfl, rfl, rfl, rfl, rfl, rfl, trivial⟩ ⟨H350, hf.set ql319 _ _ _ (by omega)⟩
                    · skip
                      have H351 : Own w (fun _ : Nat => False) w308 [net h ls, blk g38 [.int .i64 x30.xDo, .int .i64 x30.xFrom, .int .i64 x30.xTo, .int .i64 x30.xN, .string ⟨List.toArray x30.xBytes⟩, .bool x30.xClone] 31, row A45 (List.length x30.xBytes) c46 (List.flatMap eB x30.xBytes) 5 1, rnet g18 (keys ls)] := bk306 _ _ HQ323
                      have H352 : Own w (fun _ : Nat => False) w308 [blk g38 [.int .i64 x30.xDo, .int .i64 x30.xFrom, .int .i64 x30.xTo, .int .i64 x30.xN, .string ⟨List.toArray x30.xBytes⟩, .bool x30.xClone] 31, row A45 (List.length x30.xBytes) c46 (List.flatMap eB x30.xBytes) 5 1, net h ls, rnet g18 (keys ls)] := H351.pick [1, 2, 0, 3] (by decide) rfl
                      refine ⟨.inr ⟨_, H352⟩, ?_⟩
                      show GW _ _ _ _ 3 #[true, true, true, true, true, true, true, true, true, true, false, false, false] _ _ _
                      have H353 : Own w (fun _ : Nat => False) w308 [rnet g18 (keys ls), blk g38 [.int .i64 x30.xDo, .int .i64 x30.xFrom, .int .i64 x30.xTo, .int .i64 x30.xN, .string ⟨List.toArray x30.xBytes⟩, .bool x30.xClone] 31, row A45 (List.length x30.xBytes) c46 (List.flatMap eB x30.xBytes) 5 1, net h ls] := H352.pick [3, 0, 1, 2] (by decide) rfl
                      obtain ⟨D354, HP355, ro356, bk357, rr358⟩ := Own.enter (L1 := [rnet g18 (keys ls)]) (L2 := [blk g38 [.int .i64 x30.xDo, .int .i64 x30.xFrom, .int .i64 x30.xTo, .int .i64 x30.xN, .string ⟨List.toArray x30.xBytes⟩, .bool x30.xClone] 31, row A45 (List.length x30.xBytes) c46 (List.flatMap eB x30.xBytes) 5 1, net h ls]) H353
                      refine GW.do (i := 10) (l' := #[true, true, true, true, true, true, true, true, true, true, true, false, false]) rfl rfl (by kernel_rfl) (by kernel_rfl) (Do.call Try.call15 rfl (RSpoil_x g18 ls x30.xN _ _ HP355 hf x30.xBytes qo324) ?_)
                      rintro _ w359 ⟨rfl, HQ360⟩
                      have H361 : Own w (fun _ : Nat => False) w359 [rnet g18 (keys ls), blk g38 [.int .i64 x30.xDo, .int .i64 x30.xFrom, .int .i64 x30.xTo, .int .i64 x30.xN, .string ⟨List.toArray x30.xBytes⟩, .bool x30.xClone] 31, row A45 (List.length x30.xBytes) c46 (List.flatMap eB x30.xBytes) 5 1, net h ls] := bk357 _ _ HQ360
                      have H362 : Own w (fun _ : Nat => False) w359 [blk g38 [.int .i64 x30.xDo, .int .i64 x30.xFrom, .int .i64 x30.xTo, .int .i64 x30.xN, .string ⟨List.toArray x30.xBytes⟩, .bool x30.xClone] 31, row A45 (List.length x30.xBytes) c46 (List.flatMap eB x30.xBytes) 5 1, rnet g18 (keys ls), net h ls] := H361.pick [1, 2, 0, 3] (by decide) rfl
                      refine ⟨.inr ⟨_, H362⟩, ?_⟩
                      show GW _ _ _ _ 2 #[true, true, true, true, true, true, true, true, true, true, true, false, false] _ _ _
                      refine GW.take (v := .bool true) (i := 11) (l' := #[true, true, true, true, true, true, true, true, true, true, true, true, false]) (rs := []) rfl (by kernel_rfl) rfl (NoP.block (NoP.then (NoP.block (NoP.then (NoP.then (NoP.block (NoP.then NoP.base))))))) (by kernel_rfl) (by kernel_rfl) (by kernel_rfl) (by kernel_rfl) (fun _ _ => Yl.kern rfl rfl (fun _ => by kernel_rfl)) ?_
                      refine GW.take (v := .bool true) (i := 12) (l' := #[true, true, true, true, true, true, true, true, true, true, true, true, true]) (rs := []) rfl (by kernel_rfl) rfl (NoP.block (NoP.then (NoP.block (NoP.then (NoP.then (NoP.block (NoP.then NoP.base))))))) (by kernel_rfl) (by kernel_rfl) (by kernel_rfl) (by kernel_rfl) (fun _ _ => Yl.assign rfl) ?_
                      refine GW.done (by kernel_rfl) ?_
                      refine Fin.blockN ?_
                      have H363 : Own w (fun _ : Nat => False) w359 [net h ls, rnet g18 (keys ls), row A45 (List.length x30.xBytes) c46 (List.flatMap eB x30.xBytes) 5 1, blk g38 [.int .i64 x30.xDo, .int .i64 x30.xFrom, .int .i64 x30.xTo, .int .i64 x30.xN, .string ⟨List.toArray x30.xBytes⟩, .bool x30.xClone] 31] := H362.pick [3, 2, 1, 0] (by decide) rfl
                      exact Fin.join ls ⟨rfl, rfl, rfl, rfl, rfl, rfl, rfl, rfl, rfl, rfl, rfl, rfl, rfl, rfl, rfl, rfl, rfl, rfl, rfl, rfl, rfl, rfl, rfl, rfl, rfl, rfl, rfl, rfl, rfl, rfl, rfl, rfl, rfl, trivial⟩ ⟨H363, hf⟩
                  · skip
                    refine Wp.cond0 rfl (decide_eq_false h297) ?_
                    refine Wp.skip ?_
                    refine Fin.blockN ?_
                    have H364 : Own w (fun _ : Nat => False) w47 [net h ls, rnet g18 (keys ls), row A45 (List.length x30.xBytes) c46 (List.flatMap eB x30.xBytes) 5 1, blk g38 [.int .i64 x30.xDo, .int .i64 x30.xFrom, .int .i64 x30.xTo, .int .i64 x30.xN, .string ⟨List.toArray x30.xBytes⟩, .bool x30.xClone] 31] := H48.pick [2, 3, 0, 1] (by decide) rfl
                    exact Fin.join ls ⟨rfl, rfl, rfl, rfl, rfl, rfl, rfl, rfl, rfl, rfl, rfl, rfl, rfl, rfl, rfl, rfl, rfl, rfl, rfl, rfl, rfl, rfl, rfl, rfl, rfl, rfl, rfl, rfl, rfl, rfl, rfl, rfl, rfl, trivial⟩ ⟨H364, hf⟩
        · skip
          rintro ls2 w365 ⟨H366, hf367⟩
          show Wp _ _ _ [(9, .bool true), (48, .int .i64 x30.xDo), (47, .pointer (some ⟨g38, 0, none⟩)), (8, .slice A45 (List.length x30.xBytes) c46), (46, .slice A45 (List.length x30.xBytes) c46), (45, .string ⟨List.toArray x30.xBytes⟩), (44, .pointer (some ⟨g38, 4, none⟩)), (43, .bool (decide (((List.length x30.xBytes : Nat) : Int) > 10000))), (42, .int .i64 ((List.length x30.xBytes : Nat) : Int)), (41, .string ⟨List.toArray x30.xBytes⟩), (40, .pointer (some ⟨g38, 4, none⟩)), (7, .pointer (some ⟨g38, 0, none⟩)), (39, .agg #[.int .i64 x30.xDo, .int .i64 x30.xFrom, .int .i64 x30.xTo, .int .i64 x30.xN, .string ⟨List.toArray x30.xBytes⟩, .bool x30.xClone]), (38, .pointer (some ⟨ab l.A, ao l.A + k * 6, none⟩)), (37, .bool (decide (((k : Nat) : Int) < ((List.length l.ls : Nat) : Int)))), (36, .int .i64 ((k : Nat) : Int)), (4, .pointer (some ⟨h, 0, none⟩)), (35, .int .i64 ((List.length l.ls : Nat) : Int)), (34, .slice l.A (List.length l.ls) l.c), (28, .bool (decide (((List.length l.ls : Nat) : Int) > 300))), (27, .bool (decide (((List.length l.ls : Nat) : Int) > 300))), (26, .int .i64 ((List.length l.ls : Nat) : Int)), (25, .slice l.A (List.length l.ls) l.c), (24, .bool false), (23, .bool false), (22, .pointer (some ⟨h16, 0, none⟩)), (5, .pointer (some ⟨g18, 0, none⟩)), (21, .pointer (some ⟨g18, 0, none⟩)), (20, .agg #[.slice none 0 0]), (19, .pointer (some ⟨h16, 0, none⟩)), (3, .bool true), (18, .bool true), (0, .slice l.A (List.length l.ls) l.c)] _ _
          replace H366 : Own w (fun _ : Nat => False) w365 [net h ls2, rnet g18 (keys ls2), row A45 (List.length x30.xBytes) c46 (List.flatMap eB x30.xBytes) 5 1, blk g38 [.int .i64 x30.xDo, .int .i64 x30.xFrom, .int .i64 x30.xTo, .int .i64 x30.xN, .string ⟨List.toArray x30.xBytes⟩, .bool x30.xClone] 31] := H366
          replace hf367 : Fine ls2 := hf367
          have hf2 := hf367
          have hle2 := hf2.1
          refine Wp.seq ?_
          refine Wp.seq ?_
          refine Wp.region ?_
          refine WL.val (v := .slice A45 (List.length x30.xBytes) c46) rfl (Yl.move rfl) ?_
          refine WL.val (v := .int .i64 ((List.length x30.xBytes : Nat) : Int)) rfl (Yl.kern rfl rfl (fun _ => by kernel_rfl)) ?_
          refine WL.val (v := .int .i64 0) rfl (Yl.move rfl) ?_
          refine WL.nil ?_
          refine Fin.then ?_
          refine Wp.block ?_
          have H368 : Own w (fun _ : Nat => False) w365 [row A45 (List.length x30.xBytes) c46 (List.flatMap eB x30.xBytes) 5 1, net h ls2, rnet g18 (keys ls2), blk g38 [.int .i64 x30.xDo, .int .i64 x30.xFrom, .int .i64 x30.xTo, .int .i64 x30.xN, .string ⟨List.toArray x30.xBytes⟩, .bool x30.xClone] 31] := H366.pick [2, 0, 1, 3] (by decide) rfl
          refine Wp.loop (ι := Nat × (List UInt8)) (fun i => [(150, .int .i64 ((i.1 : Nat) : Int)), (149, .int .i64 ((List.length x30.xBytes : Nat) : Int)), (148, .slice A45 (List.length x30.xBytes) c46), (9, .bool true), (48, .int .i64 x30.xDo), (47, .pointer (some ⟨g38, 0, none⟩)), (8, .slice A45 (List.length x30.xBytes) c46), (46, .slice A45 (List.length x30.xBytes) c46), (45, .string ⟨List.toArray x30.xBytes⟩), (44, .pointer (some ⟨g38, 4, none⟩)), (43, .bool (decide (((List.length x30.xBytes : Nat) : Int) > 10000))), (42, .int .i64 ((List.length x30.xBytes : Nat) : Int)), (41, .string ⟨List.toArray x30.xBytes⟩), (40, .pointer (some ⟨g38, 4, none⟩)), (7, .pointer (some ⟨g38, 0, none⟩)), (39, .agg #[.int .i64 x30.xDo, .int .i64 x30.xFrom, .int .i64 x30.xTo, .int .i64 x30.xN, .string ⟨List.toArray x30.xBytes⟩, .bool x30.xClone]), (38, .pointer (some ⟨ab l.A, ao l.A + k * 6, none⟩)), (37, .bool (decide (((k : Nat) : Int) < ((List.length l.ls : Nat) : Int)))), (36, .int .i64 ((k : Nat) : Int)), (4, .pointer (some ⟨h, 0, none⟩)), (35, .int .i64 ((List.length l.ls : Nat) : Int)), (34, .slice l.A (List.length l.ls) l.c), (28, .bool (decide (((List.length l.ls : Nat) : Int) > 300))), (27, .bool (decide (((List.length l.ls : Nat) : Int) > 300))), (26, .int .i64 ((List.length l.ls : Nat) : Int)), (25, .slice l.A (List.length l.ls) l.c), (24, .bool false), (23, .bool false), (22, .pointer (some ⟨h16, 0, none⟩)), (5, .pointer (some ⟨g18, 0, none⟩)), (21, .pointer (some ⟨g18, 0, none⟩)), (20, .agg #[.slice none 0 0]), (19, .pointer (some ⟨h16, 0, none⟩)), (3, .bool true), (18, .bool true), (0, .slice l.A (List.length l.ls) l.c)]) (fun (i : Nat × (List UInt8)) w' => Own w (fun _ : Nat => False) w' [row A45 (List.length x30.xBytes) c46 (List.flatMap eB i.2) 5 1, net h ls2, rnet g18 (keys ls2), blk g38 [.int .i64 x30.xDo, .int .i64 x30.xFrom, .int .i64 x30.xTo, .int .i64 x30.xN, .string ⟨List.toArray x30.xBytes⟩, .bool x30.xClone] 31] ∧ (True)) (fun i => List.length x30.xBytes - i.1) (0, x30.xBytes) ⟨rfl, rfl, rfl, rfl, rfl, rfl, rfl, rfl, rfl, rfl, rfl, rfl, rfl, rfl, rfl, rfl, rfl, rfl, rfl, rfl, rfl, rfl, rfl, rfl, rfl, rfl, rfl, rfl, rfl, rfl, rfl, rfl, rfl, rfl, rfl, rfl, trivial⟩ ⟨H368, trivial⟩ ?_
          rintro ⟨j, bs2⟩ w369 ⟨H370, hf371⟩
          show Wp _ _ _ [(150, .int .i64 ((j : Nat) : Int)), (149, .int .i64 ((List.length x30.xBytes : Nat) : Int)), (148, .slice A45 (List.length x30.xBytes) c46), (9, .bool true), (48, .int .i64 x30.xDo), (47, .pointer (some ⟨g38, 0, none⟩)), (8, .slice A45 (List.length x30.xBytes) c46), (46, .slice A45 (List.length x30.xBytes) c46), (45, .string ⟨List.toArray x30.xBytes⟩), (44, .pointer (some ⟨g38, 4, none⟩)), (43, .bool (decide (((List.length x30.xBytes : Nat) : Int) > 10000))), (42, .int .i64 ((List.length x30.xBytes : Nat) : Int)), (41, .string ⟨List.toArray x30.xBytes⟩), (40, .pointer (some ⟨g38, 4, none⟩)), (7, .pointer (some ⟨g38, 0, none⟩)), (39, .agg #[.int .i64 x30.xDo, .int .i64 x30.xFrom, .int .i64 x30.xTo, .int .i64 x30.xN, .string ⟨List.toArray x30.xBytes⟩, .bool x30.xClone]), (38, .pointer (some ⟨ab l.A, ao l.A + k * 6, none⟩)), (37, .bool (decide (((k : Nat) : Int) < ((List.length l.ls : Nat) : Int)))), (36, .int .i64 ((k : Nat) : Int)), (4, .pointer (some ⟨h, 0, none⟩)), (35, .int .i64 ((List.length l.ls : Nat) : Int)), (34, .slice l.A (List.length l.ls) l.c), (28, .bool (decide (((List.length l.ls : Nat) : Int) > 300))), (27, .bool (decide (((List.length l.ls : Nat) : Int) > 300))), (26, .int .i64 ((List.length l.ls : Nat) : Int)), (25, .slice l.A (List.length l.ls) l.c), (24, .bool false), (23, .bool false), (22, .pointer (some ⟨h16, 0, none⟩)), (5, .pointer (some ⟨g18, 0, none⟩)), (21, .pointer (some ⟨g18, 0, none⟩)), (20, .agg #[.slice none 0 0]), (19, .pointer (some ⟨h16, 0, none⟩)), (3, .bool true), (18, .bool true), (0, .slice l.A (List.length l.ls) l.c)] _ _
          replace H370 : Own w (fun _ : Nat => False) w369 [row A45 (List.length x30.xBytes) c46 (List.flatMap eB bs2) 5 1, net h ls2, rnet g18 (keys ls2), blk g38 [.int .i64 x30.xDo, .int .i64 x30.xFrom, .int .i64 x30.xTo, .int .i64 x30.xN, .string ⟨List.toArray x30.xBytes⟩, .bool x30.xClone] 31] := H370
          clear hf371
          refine Wp.seq ?_
          refine Wp.region ?_
          refine WL.val (v := .bool (decide (((j : Nat) : Int) < ((List.length x30.xBytes : Nat) : Int)))) rfl (Yl.kern rfl rfl (fun _ => by kernel_rfl)) ?_
          refine WL.nil ?_
          refine Fin.then ?_
          refine Wp.seq ?_
          by_cases h372 : ((j : Nat) : Int) < ((List.length x30.xBytes : Nat) : Int)
          · skip
            refine Wp.cond1 rfl (decide_eq_true h372) ?_
            refine Wp.skip ?_
            refine Fin.then ?_
            refine Wp.seq ?_
            refine Wp.block ?_
            refine Wp.seq ?_
            refine Wp.region ?_
            refine WL.val (v := .int .i64 ((j : Nat) : Int)) rfl (Yl.move rfl) ?_
            refine WL.val (v := .int .i64 ((j : Nat) : Int)) rfl (Yl.assign rfl) ?_
            refine WL.nil ?_
            refine Fin.then ?_
            refine Wp.region ?_
            refine WL.val (v := .slice A45 (List.length x30.xBytes) c46) rfl (Yl.move rfl) ?_
            refine WL.val (v := .int .i64 ((j : Nat) : Int)) rfl (Yl.move rfl) ?_
            obtain ⟨x373, hx374⟩ := rds_at (ls := bs2) (i := j) eB_len (by decide) (H370.rds (i := 0) rfl) (by first | omega | (simp; done) | (simp; omega))
            refine WL.val (v := .pointer (some ⟨ab A45, ao A45 + j * 1, none⟩)) rfl (Yl.indexAddr (El32) rfl rfl ((H370.rds (i := 0) rfl).addr (i := j) (by omega)) (by omega)) ?_
            refine WL.val (v := .int .u8 ((x373.toNat : Nat) : Int)) rfl (Yl.load rfl (Lds.one Try.isAgg5 (((H370.rds (i := 0) rfl).elem eB_len hx374 (by decide)).at_ (k := 0) rfl))) ?_
            refine WL.val (v := .int .u8 (((x373 + (1 : UInt8)).toNat : Nat) : Int)) rfl (Yl.int (e := IntKind.u8.wrap (((x373.toNat : Nat) : Int) + 1)) (Yl.kern rfl rfl (fun _ => by kernel_rfl)) (u8_add x373 (1 : UInt8))) ?_
            refine WL.val (v := .pointer (some ⟨ab A45, ao A45 + j * 1, none⟩)) rfl (Yl.indexAddr (El32) rfl rfl ((H370.rds (i := 0) rfl).addr (i := j) (by omega)) (by omega)) ?_
            refine WL.do0 (Do.storeRow (vs := [.int .u8 (((x373 + (1 : UInt8)).toNat : Nat) : Int)]) (o := j * 1 + 0) (q := ao A45 + j * 1) H370 rfl (by omega) rfl Try.sizeOf5 rfl rfl (Nat.le_of_ble_eq_true rfl) (store_fits eB_len hx374 (Nat.le_of_ble_eq_true rfl)) (flat_set (y := (x373 + (1 : UInt8))) eB_len rfl (Nat.le_of_ble_eq_true rfl) hx374) ?_)
            intro w375 H376
            replace H376 : Own w (fun _ : Nat => False) w375 [row A45 (List.length x30.xBytes) c46 (List.flatMap eB (List.set bs2 j (x373 + (1 : UInt8)))) 5 1, net h ls2, rnet g18 (keys ls2), blk g38 [.int .i64 x30.xDo, .int .i64 x30.xFrom, .int .i64 x30.xTo, .int .i64 x30.xN, .string ⟨List.toArray x30.xBytes⟩, .bool x30.xClone] 31] := H376
            refine WL.nil ?_
            refine Fin.blockN ?_
            refine Fin.then ?_
            refine Wp.region ?_
            refine WL.val (v := .int .i64 ((j + 1 : Nat) : Int)) rfl (Yl.int (e := IntKind.i64.wrap (((j : Nat) : Int) + 1)) (Yl.kern rfl rfl (fun _ => by kernel_rfl)) (by rw [IntWalk.i64_in _ (by omega)]; omega)) ?_
            refine WL.val (v := .int .i64 ((j + 1 : Nat) : Int)) rfl (Yl.move rfl) ?_
            refine WL.nil ?_
            exact Fin.round (j + 1, List.set bs2 j (x373 + (1 : UInt8))) ⟨rfl, rfl, rfl, rfl, rfl, rfl, rfl, rfl, rfl, rfl, rfl, rfl, rfl, rfl, rfl, rfl, rfl, rfl, rfl, rfl, rfl, rfl, rfl, rfl, rfl, rfl, rfl, rfl, rfl, rfl, rfl, rfl, rfl, rfl, rfl, rfl, trivial⟩ ⟨H376, trivial⟩ (by show List.length x30.xBytes - (j + 1) < List.length x30.xBytes - j; omega)
          · skip
            refine Wp.cond0 rfl (decide_eq_false h372) ?_
            refine Wp.exit ?_
            refine Fin.thenX ?_
            refine Fin.thenX ?_
            refine Fin.blockX ?_
            refine Fin.then ?_
            refine Wp.seq ?_
            refine Wp.seq ?_
            refine Wp.region ?_
            refine WL.val (v := .bool true) rfl (Yl.move rfl) ?_
            refine WL.val (v := .bool false) rfl (Yl.kern rfl rfl (fun _ => by kernel_rfl)) ?_
            refine WL.val (v := .bool false) rfl (Yl.move rfl) ?_
            refine WL.valG (v := .pointer (some ⟨h, 0, none⟩)) rfl rfl rfl rfl (Yl.move rfl) ?_
            refine WL.valG (v := .pointer (some ⟨g18, 0, none⟩)) rfl rfl rfl rfl (Yl.move rfl) ?_
            have H377 : Own w (fun _ : Nat => False) w369 [net h ls2, rnet g18 (keys ls2), row A45 (List.length x30.xBytes) c46 (List.flatMap eB bs2) 5 1, blk g38 [.int .i64 x30.xDo, .int .i64 x30.xFrom, .int .i64 x30.xTo, .int .i64 x30.xN, .string ⟨List.toArray x30.xBytes⟩, .bool x30.xClone] 31] := H370.pick [1, 2, 0, 3] (by decide) rfl
            obtain ⟨D378, HP379, ro380, bk381, rr382⟩ := Own.enter (L1 := [net h ls2, rnet g18 (keys ls2)]) (L2 := [row A45 (List.length x30.xBytes) c46 (List.flatMap eB bs2) 5 1, blk g38 [.int .i64 x30.xDo, .int .i64 x30.xFrom, .int .i64 x30.xTo, .int .i64 x30.xN, .string ⟨List.toArray x30.xBytes⟩, .bool x30.xClone] 31]) H377
            refine WL.doG rfl rfl rfl rfl (Do.call Try.call16 rfl (same_ok h g18 ls2 _ _ HP379 hf2) ?_)
            rintro _ w383 ⟨rfl, HQ384⟩
            have H385 : Own w (fun _ : Nat => False) w383 [net h ls2, rnet g18 (keys ls2), row A45 (List.length x30.xBytes) c46 (List.flatMap eB bs2) 5 1, blk g38 [.int .i64 x30.xDo, .int .i64 x30.xFrom, .int .i64 x30.xTo, .int .i64 x30.xN, .string ⟨List.toArray x30.xBytes⟩, .bool x30.xClone] 31] := bk381 _ _ HQ384
            refine WL.valG (v := .bool false) rfl rfl rfl rfl (Yl.kern rfl rfl (fun _ => by kernel_rfl)) ?_
            refine WL.val (v := .bool false) rfl (Yl.pickF rfl rfl rfl) ?_
            refine WL.nil ?_
            refine Fin.then ?_
            refine Wp.cond0 rfl rfl ?_
            refine Wp.skip ?_
            refine Fin.then ?_
            refine Wp.seq ?_
            refine Wp.region ?_
            refine WL.val (v := .pointer (some ⟨g38, 5, none⟩)) rfl (Yl.kern rfl rfl (fun _ => by kernel_rfl)) ?_
            refine WL.val (v := .bool x30.xClone) rfl (Yl.load rfl (Lds.one Try.isAgg4 (Cls.of (H385.cls (i := 3) rfl) rfl))) ?_
            refine WL.nil ?_
            refine Fin.then ?_
            rcases Bool.eq_false_or_eq_true (x30.xClone) with h386 | h386
            · skip
              refine Wp.cond1 rfl h386 ?_
              refine Wp.seq ?_
              refine Wp.region ?_
              refine WL.val (v := .pointer (some ⟨h, 0, none⟩)) rfl (Yl.move rfl) ?_
              obtain ⟨D387, HP388, ro389, bk390, rr391⟩ := Own.enter (L1 := [net h ls2]) (L2 := [rnet g18 (keys ls2), row A45 (List.length x30.xBytes) c46 (List.flatMap eB bs2) 5 1, blk g38 [.int .i64 x30.xDo, .int .i64 x30.xFrom, .int .i64 x30.xTo, .int .i64 x30.xN, .string ⟨List.toArray x30.xBytes⟩, .bool x30.xClone] 31]) H385
              refine WL.do rfl (Do.call Try.call17 rfl (Clone_ok h ls2 _ _ HP388 (by have := hf2.1; omega) (fun l hl => by have := (hf2.2 l hl).1; omega)) ?_)
              rintro _ w392 ⟨h394, ds395, rfl, qk396, HQ393⟩
              have H397 : Own w (fun _ : Nat => False) w392 [net h ls2, net h394 ds395, rnet g18 (keys ls2), row A45 (List.length x30.xBytes) c46 (List.flatMap eB bs2) 5 1, blk g38 [.int .i64 x30.xDo, .int .i64 x30.xFrom, .int .i64 x30.xTo, .int .i64 x30.xN, .string ⟨List.toArray x30.xBytes⟩, .bool x30.xClone] 31] := bk390 _ _ HQ393
              refine WL.val (v := .pointer (some ⟨h394, 0, none⟩)) rfl (Yl.assign rfl) ?_
              refine WL.nil ?_
              refine Fin.then ?_
              refine Wp.seq ?_
              refine Wp.seq ?_
              refine Wp.region ?_
              refine WL.val (v := .pointer (some ⟨h394, 0, none⟩)) rfl (Yl.move rfl) ?_
              refine WL.val (v := .bool false) rfl (Yl.kern rfl rfl (fun _ => by kernel_rfl)) ?_
              refine WL.nil ?_
              refine Fin.then ?_
              refine Wp.cond0 rfl rfl ?_
              refine Wp.skip ?_
              refine Fin.then ?_
              refine Wp.seq ?_
              refine Wp.region ?_
              refine WL.val (v := .pointer (some ⟨h, 0, none⟩)) rfl (Yl.move rfl) ?_
              obtain ⟨D398, HP399, ro400, bk401, rr402⟩ := Own.enter (L1 := [net h ls2]) (L2 := [net h394 ds395, rnet g18 (keys ls2), row A45 (List.length x30.xBytes) c46 (List.flatMap eB bs2) 5 1, blk g38 [.int .i64 x30.xDo, .int .i64 x30.xFrom, .int .i64 x30.xTo, .int .i64 x30.xN, .string ⟨List.toArray x30.xBytes⟩, .bool x30.xClone] 31]) H397
              refine WL.do rfl (Do.call Try.call7 rfl (Send_weak h ls2 9 9 none 0 [] _ _ HP399 (fun _ _ => Rds.nil _ _ _) hf2) ?_)
              rintro _ w403 ⟨e405, ls406, rfl, qf407, HQ404⟩
              have H408 : Own w (fun _ : Nat => False) w403 [net h ls406, net h394 ds395, rnet g18 (keys ls2), row A45 (List.length x30.xBytes) c46 (List.flatMap eB bs2) 5 1, blk g38 [.int .i64 x30.xDo, .int .i64 x30.xFrom, .int .i64 x30.xTo, .int .i64 x30.xN, .string ⟨List.toArray x30.xBytes⟩, .bool x30.xClone] 31] := bk401 _ _ HQ404
              refine WL.nil ?_
              refine Fin.then ?_
              refine Wp.seq ?_
              refine Wp.region ?_
              refine WL.val (v := .pointer (some ⟨h, 0, none⟩)) rfl (Yl.move rfl) ?_
              refine WL.do rfl (Do.newRow (cs := [.int .u8 122, .int .u8 122]) (t := 5) (sz := 1) (m := 2) H408 rfl rfl (fun _ => by kernel_rfl) rfl (by decide) ?_)
              intro A409 w410 H411
              replace H411 : Own w (fun _ : Nat => False) w410 [row A409 2 2 (List.flatMap eB ([122, 122])) 5 1, net h ls406, net h394 ds395, rnet g18 (keys ls2), row A45 (List.length x30.xBytes) c46 (List.flatMap eB bs2) 5 1, blk g38 [.int .i64 x30.xDo, .int .i64 x30.xFrom, .int .i64 x30.xTo, .int .i64 x30.xN, .string ⟨List.toArray x30.xBytes⟩, .bool x30.xClone] 31] := H411
              refine WL.do rfl (Do.mark Try.underlying32 Try.underlying5 H411 (by omega) rfl ?_)
              intro w412 H413
              replace H413 : Own w (fun _ : Nat => False) w412 [row A409 2 2 (List.flatMap eB ([122, 122])) 5 1, net h ls406, net h394 ds395, rnet g18 (keys ls2), row A45 (List.length x30.xBytes) c46 (List.flatMap eB bs2) 5 1, blk g38 [.int .i64 x30.xDo, .int .i64 x30.xFrom, .int .i64 x30.xTo, .int .i64 x30.xN, .string ⟨List.toArray x30.xBytes⟩, .bool x30.xClone] 31] := H413
              have H414 : Own w (fun _ : Nat => False) w412 [net h ls406, row A409 2 2 (List.flatMap eB ([122, 122])) 5 1, net h394 ds395, rnet g18 (keys ls2), row A45 (List.length x30.xBytes) c46 (List.flatMap eB bs2) 5 1, blk g38 [.int .i64 x30.xDo, .int .i64 x30.xFrom, .int .i64 x30.xTo, .int .i64 x30.xN, .string ⟨List.toArray x30.xBytes⟩, .bool x30.xClone] 31] := H413.pick [1, 0, 2, 3, 4, 5] (by decide) rfl
              obtain ⟨D415, HP416, ro417, bk418, rr419⟩ := Own.enter (L1 := [net h ls406]) (L2 := [row A409 2 2 (List.flatMap eB ([122, 122])) 5 1, net h394 ds395, rnet g18 (keys ls2), row A45 (List.length x30.xBytes) c46 (List.flatMap eB bs2) 5 1, blk g38 [.int .i64 x30.xDo, .int .i64 x30.xFrom, .int .i64 x30.xTo, .int .i64 x30.xN, .string ⟨List.toArray x30.xBytes⟩, .bool x30.xClone] 31]) H414
              refine WL.do rfl (Do.call Try.call14 rfl (Spoil_weak h ls406 0 _ _ HP416 qf407 A409 2 ([122, 122]) (rr419 _ 0 _ rfl row_rds)) ?_)
              rintro _ w420 ⟨e422, ls423, rfl, HQ421⟩
              have H424 : Own w (fun _ : Nat => False) w420 [net h ls423, row A409 2 2 (List.flatMap eB ([122, 122])) 5 1, net h394 ds395, rnet g18 (keys ls2), row A45 (List.length x30.xBytes) c46 (List.flatMap eB bs2) 5 1, blk g38 [.int .i64 x30.xDo, .int .i64 x30.xFrom, .int .i64 x30.xTo, .int .i64 x30.xN, .string ⟨List.toArray x30.xBytes⟩, .bool x30.xClone] 31] := bk418 _ _ HQ421
              refine WL.nil ?_
              refine Fin.then ?_
              refine Wp.region ?_
              refine WL.val (v := .pointer (some ⟨h394, 0, none⟩)) rfl (Yl.move rfl) ?_
              refine WL.val (v := .pointer (some ⟨h394, 0, none⟩)) rfl (Yl.assign rfl) ?_
              refine WL.nil ?_
              refine Fin.blockN ?_
              refine Fin.then ?_
              refine Wp.region ?_
              refine WL.val (v := .int .i64 ((k + 1 : Nat) : Int)) rfl (Yl.int (e := IntKind.i64.wrap (((k : Nat) : Int) + 1)) (Yl.kern rfl rfl (fun _ => by kernel_rfl)) (by rw [IntWalk.i64_in _ (by omega)]; omega)) ?_
              refine WL.val (v := .int .i64 ((k + 1 : Nat) : Int)) rfl (Yl.move rfl) ?_
              refine WL.nil ?_
              have H425 : Own w (fun _ : Nat => False) w420 [net h394 ds395, rnet g18 (keys ls2)] := H424.pick [2, 3] (by decide) rfl
              have H426 : Own w (fun _ : Nat => False) w420 [net h394 ds395, rnet g18 (keys ds395)] := by rw [qk396]; exact H425
              exact Fin.round (k + 1, h394, ds395) ⟨rfl, rfl, rfl, rfl, rfl, rfl, rfl, rfl, rfl, rfl, rfl, rfl, rfl, rfl, rfl, rfl, rfl, rfl, trivial⟩ ⟨H426, (show (k + 1) ≤ List.length l.ls ∧ Fine ds395 from ⟨by omega, hf2.keys qk396⟩)⟩ (by show List.length l.ls - (k + 1) < List.length l.ls - k; omega)
            · skip
              refine Wp.cond0 rfl h386 ?_
              refine Wp.skip ?_
              refine Fin.blockN ?_
              refine Fin.then ?_
              refine Wp.region ?_
              refine WL.val (v := .int .i64 ((k + 1 : Nat) : Int)) rfl (Yl.int (e := IntKind.i64.wrap (((k : Nat) : Int) + 1)) (Yl.kern rfl rfl (fun _ => by kernel_rfl)) (by rw [IntWalk.i64_in _ (by omega)]; omega)) ?_
              refine WL.val (v := .int .i64 ((k + 1 : Nat) : Int)) rfl (Yl.move rfl) ?_
              refine WL.nil ?_
              have H427 : Own w (fun _ : Nat => False) w383 [net h ls2, rnet g18 (keys ls2)] := H385.pick [0, 1] (by decide) rfl
              exact Fin.round (k + 1, h, ls2) ⟨rfl, rfl, rfl, rfl, rfl, rfl, rfl, rfl, rfl, rfl, rfl, rfl, rfl, rfl, rfl, rfl, rfl, rfl, trivial⟩ ⟨H427, (show (k + 1) ≤ List.length l.ls ∧ Fine ls2 from ⟨by omega, hf2⟩)⟩ (by show List.length l.ls - (k + 1) < List.length l.ls - k; omega)
    · skip
      refine Wp.cond0 rfl (decide_eq_false h29) ?_
      refine Wp.exit ?_
      refine Fin.thenX ?_
      refine Fin.thenX ?_
      refine Fin.blockX ?_
      refine Fin.then ?_
      refine Wp.seq ?_
      refine Wp.region ?_
      refine WL.val (v := .bool true) rfl (Yl.move rfl) ?_
      refine WL.val (v := .bool true) rfl (Yl.assign rfl) ?_
      refine WL.nil ?_
      refine Fin.then ?_
      refine Wp.ret ?_
      refine Fin.res (res1 rfl rfl) ?_
      have H428 : Own w (fun _ : Nat => False) w26 [] := H27.pick [] (by decide) rfl
      exact ⟨rfl, H428⟩

theorem W_NetGoes (w : World) (l : Sv OpD) (hl : SvOk w 6 56 OpD.cells (OpD.Ok w) l) :
    Calls Try.prog 3 #[.slice l.A (List.length l.ls) l.c] w fun e w' => e = .returned (.bool true) ∧ Below w.heap.size w w' :=
  (goes_ok w l hl).mono fun e w' ⟨v, he, hv, H⟩ => ⟨by rw [he, hv], H.below⟩
end Go.Proofs.Ytbflloaamnphkaa
