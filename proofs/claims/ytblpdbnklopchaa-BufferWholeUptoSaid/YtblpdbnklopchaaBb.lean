/-
  buffer: what entries say of a key.
-/
import Derived.Test.YtblpdbnklopchaaBa
namespace Go.Proofs.Ytblpdbnklopchaa
open Go.RowKit
set_option linter.unusedVariables false
set_option linter.unusedSectionVars false
set_option linter.unusedSimpArgs false

theorem rev_pre {α : Type} {ls q : List α} {k : Nat} {x : α} (hq : q = List.take k (List.reverse ls)) (hk : k < ls.length) (hx : ls[ls.length - 1 - k]? = some x) : q ++ [x] = List.take (k + 1) (List.reverse ls) ∧ q ++ [x] <+: List.reverse ls := by
  have e : (List.reverse ls)[k]? = some x := by rw [List.getElem?_reverse hk]; exact hx
  have h : q ++ [x] = List.take (k + 1) (List.reverse ls) := by rw [List.take_add_one, e, hq]; rfl
  exact ⟨h, h ▸ List.take_prefix _ _⟩

set_option maxRecDepth 100000 in
theorem behind_it (g : Nat) (A : Option Addr) (c : Nat) (ls : List EntryD) (w0 : World) (D : Nat → Prop) (hx : Ro w0 D fun w => Rds w 7 A ls.length (List.flatMap EntryD.cells ls)) (hl : ls.length ≤ 9223372036854775807) :
    Iter Try.prog w0 D 44 [.pointer (some ⟨g, 0, none⟩)] (fun x => [.agg (EntryD.cells x).toArray]) (List.reverse ls) [blk g [.slice A ls.length c] 22] := by
  intro l C J W step H
  refine Calls.bodyF (args := [.func (.yield l) #[] #[], .pointer (some ⟨g, 0, none⟩)]) Try.func44 rfl rfl rfl ?_
  show Wf _ _ _ _ _ [(0, .func (.yield l) #[] #[]), (1, .pointer (some ⟨g, 0, none⟩))] _ _
  refine Wf.seq ?_
  refine Wf.region ?_
  refine Lf.val (v := .slice A ls.length c) rfl rfl (Yl.load rfl (Lds.one Try.isAgg22 (Cls.of (H.cls (i := 1) rfl) rfl))) ?_
  refine Lf.val (v := .int .i64 ((ls.length : Nat) : Int)) rfl rfl (Yl.kern rfl rfl (fun _ => by kernel_rfl)) ?_
  refine Lf.val (v := .int .i64 (((ls.length : Nat) : Int) - 1)) rfl rfl (Yl.int (e := IntKind.i64.wrap (((ls.length : Nat) : Int) - 1)) (Yl.kern rfl rfl (fun _ => by kernel_rfl)) (by rw [IntWalk.i64_in _ (by omega)])) ?_
  refine Lf.val (v := .int .i64 (((ls.length : Nat) : Int) - 1)) rfl rfl (Yl.assign rfl) ?_
  refine Lf.nil ?_
  refine Ff.then ?_
  refine Wf.block ?_
  refine Wf.loop (ι := Nat × Int × (List EntryD)) (fun i => [(3, .int .i64 i.2.1), (6, .int .i64 (((ls.length : Nat) : Int) - 1)), (5, .int .i64 ((ls.length : Nat) : Int)), (4, .slice A ls.length c), (0, .func (.yield l) #[] #[]), (1, .pointer (some ⟨g, 0, none⟩))]) (fun (i : Nat × Int × (List EntryD)) w' => Own w0 D w' [C i.2.2, blk g [.slice A ls.length c] 22] ∧ (i.1 ≤ ls.length ∧ i.2.1 = ((ls.length : Nat) : Int) - 1 - ((i.1 : Nat) : Int) ∧ i.2.2 = List.take i.1 (List.reverse ls))) (fun i => ls.length - i.1) (0, ((ls.length : Nat) : Int) - 1, []) ⟨rfl, rfl, rfl, rfl, rfl, rfl, trivial⟩ ⟨H, (show 0 ≤ ls.length ∧ (((ls.length : Nat) : Int) - 1) = ((ls.length : Nat) : Int) - 1 - ((0 : Nat) : Int) ∧ ([]) = List.take 0 (List.reverse ls) from ⟨by omega, by omega, rfl⟩)⟩ ?_
  rintro ⟨k, z, q⟩ w1 ⟨H2, hf3⟩
  show Wf _ _ _ _ _ [(3, .int .i64 z), (6, .int .i64 (((ls.length : Nat) : Int) - 1)), (5, .int .i64 ((ls.length : Nat) : Int)), (4, .slice A ls.length c), (0, .func (.yield l) #[] #[]), (1, .pointer (some ⟨g, 0, none⟩))] _ _
  replace hf3 : k ≤ ls.length ∧ z = ((ls.length : Nat) : Int) - 1 - ((k : Nat) : Int) ∧ q = List.take k (List.reverse ls) := hf3
  obtain ⟨hk, hz, hq⟩ := hf3
  refine Wf.seq ?_
  refine Wf.seq ?_
  refine Wf.region ?_
  refine Lf.val (v := .int .i64 z) rfl rfl (Yl.move rfl) ?_
  refine Lf.val (v := .bool (decide (z ≥ 0))) rfl rfl (Yl.kern rfl rfl (fun _ => by kernel_rfl)) ?_
  refine Lf.nil ?_
  refine Ff.then ?_
  by_cases h4 : z ≥ 0
  · skip
    refine Wf.cond1 rfl (decide_eq_true h4) ?_
    refine Wf.skip ?_
    refine Ff.then ?_
    refine Wf.seq ?_
    refine Wf.block ?_
    refine Wf.seq ?_
    refine Wf.region ?_
    refine Lf.val (v := .func (.yield l) #[] #[]) rfl rfl (Yl.move rfl) ?_
    refine Lf.val (v := .slice A ls.length c) rfl rfl (Yl.load rfl (Lds.one Try.isAgg22 (Cls.of (H2.cls (i := 1) rfl) rfl))) ?_
    refine Lf.val (v := .int .i64 ((ls.length - 1 - k : Nat) : Int)) rfl rfl (Yl.int (e := z) (Yl.move rfl) (by omega)) ?_
    obtain ⟨x5, hx6⟩ := rds_at (ls := ls) (i := ls.length - 1 - k) EntryD.len (by decide) (H2.ro hx) (by first | omega | (simp; done) | (simp; omega))
    refine Lf.val (v := .pointer (some ⟨ab A, ao A + (ls.length - 1 - k) * 7, none⟩)) rfl rfl (Yl.indexAddr (El22) rfl rfl ((H2.ro hx).addr (i := ls.length - 1 - k) (by omega)) (by omega)) ?_
    refine Lf.val (v := .agg #[.int .u64 ((x5.xSeq : Nat) : Int), .int .i64 x5.xOp.xKind, .string ⟨List.toArray x5.xOp.xKey⟩, .string ⟨List.toArray x5.xOp.xValue⟩, .string ⟨List.toArray x5.xOp.xLo⟩, .string ⟨List.toArray x5.xOp.xHi⟩, .int .i64 x5.xOp.xMost]) rfl rfl (Yl.load rfl (Lds.agg (cs := [.int .u64 ((x5.xSeq : Nat) : Int), .int .i64 x5.xOp.xKind, .string ⟨List.toArray x5.xOp.xKey⟩, .string ⟨List.toArray x5.xOp.xValue⟩, .string ⟨List.toArray x5.xOp.xLo⟩, .string ⟨List.toArray x5.xOp.xHi⟩, .int .i64 x5.xOp.xMost]) Try.isAgg52 Try.sizeOf52 ((H2.ro hx).elem EntryD.len hx6 (by decide)))) ?_
    have hp10 : q ++ [x5] <+: List.reverse ls := (rev_pre hq (by omega) hx6).2
    refine Lf.do rfl (Df.yield rfl rfl (step q x5 (blk g [.slice A ls.length c] 22) w1 hp10 H2) ?_)
    rintro _ w7 (⟨rfl, H8⟩ | ⟨rfl, H9⟩)
    · skip
      replace H8 : Own w0 D w7 [C (q ++ [x5]), blk g [.slice A ls.length c] 22] := H8
      refine Lf.val (v := .bool false) rfl rfl (Yl.kern rfl rfl (fun _ => by kernel_rfl)) ?_
      refine Lf.nil ?_
      refine Ff.then ?_
      refine Wf.cond0 rfl rfl ?_
      refine Wf.skip ?_
      refine Ff.blockN ?_
      refine Ff.then ?_
      refine Wf.region ?_
      refine Lf.val (v := .int .i64 z) rfl rfl (Yl.move rfl) ?_
      refine Lf.val (v := .int .i64 (z - 1)) rfl rfl (Yl.int (e := IntKind.i64.wrap (z - 1)) (Yl.kern rfl rfl (fun _ => by kernel_rfl)) (by rw [IntWalk.i64_in _ (by omega)])) ?_
      refine Lf.val (v := .int .i64 (z - 1)) rfl rfl (Yl.assign rfl) ?_
      refine Lf.nil ?_
      exact Ff.round (k + 1, z - 1, (q ++ [x5])) ⟨rfl, rfl, rfl, rfl, rfl, rfl, trivial⟩ ⟨H8, (show (k + 1) ≤ ls.length ∧ (z - 1) = ((ls.length : Nat) : Int) - 1 - (((k + 1) : Nat) : Int) ∧ (q ++ [x5]) = List.take (k + 1) (List.reverse ls) from ⟨by omega, by omega, (rev_pre hq (by omega) hx6).1⟩)⟩ (by show ls.length - (k + 1) < ls.length - k; omega)
    · skip
      replace H9 : Own w0 D w7 [J (q ++ [x5]), blk g [.slice A ls.length c] 22] := H9
      refine Lf.val (v := .bool true) rfl rfl (Yl.kern rfl rfl (fun _ => by kernel_rfl)) ?_
      refine Lf.nil ?_
      refine Ff.then ?_
      refine Wf.cond1 rfl rfl ?_
      refine Wf.ret ?_
      refine Ff.blockR ?_
      refine Ff.thenR ?_
      refine Ff.thenR ?_
      refine Ff.blockR ?_
      refine Ff.res ?_
      refine Lv.nil (res0 rfl) ?_
      have H11 : Own w0 D w7 [J (q ++ [x5])] := H9.pick [0] (by decide) rfl
      exact .inr ⟨_, hp10, H11⟩
  · skip
    refine Wf.cond0 rfl (decide_eq_false h4) ?_
    refine Wf.exit ?_
    refine Ff.thenX ?_
    refine Ff.thenX ?_
    refine Ff.blockX ?_
    refine Ff.res0 ?_
    refine Lv.nil (res0 rfl) ?_
    have H12 : Own w0 D w1 [C q] := H2.pick [0] (by decide) rfl
    have e : q = List.reverse ls := by rw [hq, List.take_of_length_le (by rw [List.length_reverse]; omega)]
    rw [← e]
    exact .inl H12

def buffer_Find_L0 (p1 : List UInt8) : List EntryD → Unit ⊕ ((List UInt8) × Bool × Bool)
  | [] => Sum.inl ()
  | x38 :: q45 => bnd (buffer_touches x38.xOp p1) fun yr84 => if yr84 = true then if x38.xOp.xKind = 2 then Sum.inr (x38.xOp.xValue, true, true) else Sum.inr ([], false, true) else buffer_Find_L0 p1 q45

def buffer_Find (l0 : List EntryD) (p1 : List UInt8) : (List UInt8) × Bool × Bool :=
  lp (buffer_Find_L0 p1 (List.reverse l0)) fun _ => ([], false, false)

set_option maxRecDepth 100000 in
theorem buffer_Find_ok (w : World) (D : Nat → Prop) (A0 : Option Addr) (n0 c0 : Nat) (l0 : List EntryD) (p1 : List UInt8) (r0 : List UInt8) (r1 : Bool) (r2 : Bool) (H : Own w D w []) (hx0 : Ro w D fun w' => Rds w' 7 A0 n0 (List.flatMap EntryD.cells l0)) (hn0 : n0 = l0.length) (hl0 : l0.length ≤ 9223372036854775807) (hr : buffer_Find l0 p1 = (r0, r1, r2)) :
    Calls Try.prog 8 #[.slice A0 n0 c0, .string ⟨List.toArray p1⟩] w (Ret fun v w' => v = .tuple #[.string ⟨List.toArray r0⟩, .bool r1, .bool r2] ∧ Own w D w' []) := by
  subst hn0
  refine Calls.bodyF (args := [.slice A0 l0.length c0, .string ⟨List.toArray p1⟩]) Try.func8 rfl rfl rfl ?_
  show Wf _ _ _ _ _ [(0, .slice A0 l0.length c0), (1, .string ⟨List.toArray p1⟩)] _ _
  refine Wf.seq (Wf.region ?_)
  refine Lf.do rfl (Do.df rfl (Do.newP (cs := [.string ⟨List.toArray p1⟩]) (t := 9) H rfl rfl (fun _ => by kernel_rfl) ?_))
  intro g21 w22 H23
  refine Lf.do rfl (Do.df rfl (Do.newP (cs := [.string ⟨List.toArray ([])⟩]) (t := 9) H23 rfl rfl (fun _ => by kernel_rfl) ?_))
  intro g24 w25 H26
  refine Lf.do rfl (Do.df rfl (Do.newP (cs := [.bool false]) (t := 4) H26 rfl rfl (fun _ => by kernel_rfl) ?_))
  intro g27 w28 H29
  refine Lf.do rfl (Do.df rfl (Do.newP (cs := [.bool false]) (t := 4) H29 rfl rfl (fun _ => by kernel_rfl) ?_))
  intro g30 w31 H32
  refine Lf.nil (Ff.then (Wf.seq (Wf.seq (Wf.region (Lf.val (v := .slice A0 l0.length c0) rfl rfl (Yl.move rfl) ?_)))))
  refine Lf.do rfl (Do.df rfl (Do.call Try.call24 rfl ?_ (fun _ _ k => k)))
  refine Calls.body (args := [.slice A0 l0.length c0]) Try.func24 rfl rfl rfl ?_
  show Wp _ _ _ [(0, .slice A0 l0.length c0)] _ _
  refine Wp.seq (Wp.region ?_)
  refine WL.do rfl (Do.newP (cs := [.slice A0 l0.length c0]) (t := 22) H32 rfl rfl (fun _ => by kernel_rfl) ?_)
  intro g33 w34 H35
  refine As rfl rfl (WL.nil (Fin.then (Wp.seq (Wp.region (Kn (v := .func (.func 44) #[] #[.pointer (some ⟨g33, 0, none⟩)]) rfl rfl rfl (fun _ => by kernel_rfl) (As rfl rfl (WL.nil (Fin.then (Wp.ret (Fin.res (res1 rfl rfl) (Lf.nil (Ff.then (Wf.block ?_)))))))))))))
  have H36 := H35.pick [1, 2, 3, 4, 0] (by decide) rfl
  have hz37 : List.length (List.reverse l0) = l0.length := List.length_reverse
  obtain ⟨C46, hC47⟩ : ∃ q : List EntryD → HP, q = fun pre39 => exS (fun (_ : Unit) => buffer_Find_L0 p1 (List.reverse l0) = buffer_Find_L0 p1 (List.drop pre39.length (List.reverse l0))) (fun _ => [blk g30 [.bool false] 4, blk g27 [.bool false] 4, blk g24 [.string ⟨List.toArray ([])⟩] 9, blk g21 [.string ⟨List.toArray p1⟩] 9]) := ⟨_, rfl⟩
  obtain ⟨J48, hJ49⟩ : ∃ q : Code → List EntryD → HP, q = fun c _ => exS (fun (i : Bool × Bool × (List UInt8)) => c = .ret ∧ buffer_Find_L0 p1 (List.reverse l0) = Sum.inr (i.2.2, i.2.1, i.1)) (fun i => [blk g30 [.bool i.1] 4, blk g27 [.bool i.2.1] 4, blk g24 [.string ⟨List.toArray i.2.2⟩] 9]) := ⟨_, rfl⟩
  have H53 := H36.pick [0, 1, 2, 3, 4] (by decide) rfl
  have H54 : Own w D w34 [C46 [], blk g33 [.slice A0 l0.length c0] 22] := by rw [hC47]; exact Own.exFold () (show buffer_Find_L0 p1 (List.reverse l0) = buffer_Find_L0 p1 (List.drop (List.length []) (List.reverse l0)) from rfl) H53
  refine Wf.rangeFuncA (α := EntryD) (γ := Nat) (encs := fun x38 => [.agg (EntryD.cells x38).toArray]) (xs := List.reverse l0) (lb := [.pointer (some ⟨g33, 0, none⟩)]) C46 J48 (fun g40 x38 => [blk g40 (EntryD.cells x38) 52]) (fun g40 x38 => [(7, .pointer (some ⟨g40, 0, none⟩)), (10, .agg (EntryD.cells x38).toArray), (9, .func (.func 44) #[] #[.pointer (some ⟨g33, 0, none⟩)]), (8, .slice A0 l0.length c0), (6, .pointer (some ⟨g30, 0, none⟩)), (5, .pointer (some ⟨g27, 0, none⟩)), (4, .pointer (some ⟨g24, 0, none⟩)), (3, .pointer (some ⟨g21, 0, none⟩)), (0, .slice A0 l0.length c0), (1, .string ⟨List.toArray p1⟩)]) rfl Try.call44 (fun _ => rfl) rfl (behind_it g33 A0 c0 l0 w D hx0 (by omega)) H54 ?_ ?_ ?_ ?_ ?_
  intro l55 pre39 x38 R56 W57 K58 hp61 HB59 hk60
  show Wf _ _ _ _ _ [(10, .agg (EntryD.cells x38).toArray), (9, .func (.func 44) #[] #[.pointer (some ⟨g33, 0, none⟩)]), (8, .slice A0 l0.length c0), (6, .pointer (some ⟨g30, 0, none⟩)), (5, .pointer (some ⟨g27, 0, none⟩)), (4, .pointer (some ⟨g24, 0, none⟩)), (3, .pointer (some ⟨g21, 0, none⟩)), (0, .slice A0 l0.length c0), (1, .string ⟨List.toArray p1⟩)] _ _
  refine Wf.region ?_
  refine Lf.do rfl (Do.df rfl (Do.newP (cs := [.int .u64 0, .int .i64 0, .string ⟨List.toArray ([])⟩, .string ⟨List.toArray ([])⟩, .string ⟨List.toArray ([])⟩, .string ⟨List.toArray ([])⟩, .int .i64 0]) (t := 52) HB59 rfl rfl (fun _ => by kernel_rfl) ?_))
  intro g62 w63 H64
  refine Lf.do0 (Do.df rfl (Do.store (vs := (EntryD.cells x38)) (o := 0) H64 rfl rfl Try.sizeOf52 rfl rfl rfl rfl ?_))
  intro w65 H66
  refine Lf.nil ?_
  exact hk60 g62 _ H66
  intro l67 g40 pre39 x38 R68 W69 hp71 HB70
  show Wf _ _ _ _ _ [(7, .pointer (some ⟨g40, 0, none⟩)), (10, .agg (EntryD.cells x38).toArray), (9, .func (.func 44) #[] #[.pointer (some ⟨g33, 0, none⟩)]), (8, .slice A0 l0.length c0), (6, .pointer (some ⟨g30, 0, none⟩)), (5, .pointer (some ⟨g27, 0, none⟩)), (4, .pointer (some ⟨g24, 0, none⟩)), (3, .pointer (some ⟨g21, 0, none⟩)), (0, .slice A0 l0.length c0), (1, .string ⟨List.toArray p1⟩)] _ _
  rw [hC47] at HB70
  have H73 := HB70.pick [1, 0, 2] (by decide) rfl
  obtain ⟨_, hf75, H74⟩ := Own.exOpen H73
  have H76 : Own w D W69 [blk g30 [.bool false] 4, blk g27 [.bool false] 4, blk g24 [.string ⟨List.toArray ([])⟩] 9, blk g21 [.string ⟨List.toArray p1⟩] 9, blk g40 (EntryD.cells x38) 52, R68] := H74
  replace hf75 : buffer_Find_L0 p1 (List.reverse l0) = buffer_Find_L0 p1 (List.drop pre39.length (List.reverse l0)) := hf75
  have hq72 := hf75
  have hl77 := pre_le hp71
  have hd78 := drop_pre hp71
  obtain ⟨hl77a, hl77b⟩ := hl77
  refine Wf.block (Wf.seq (Wf.seq (Wf.region (Lf.val (v := .pointer (some ⟨g40, 1, none⟩)) rfl rfl (Yl.kern rfl rfl (fun _ => by kernel_rfl)) (Lf.val (v := .agg (OpD.cells x38.xOp).toArray) rfl rfl (Yl.load rfl (Lds.agg (cs := (OpD.cells x38.xOp)) Try.isAgg50 Try.sizeOf50 ((H76.cls (i := 4) rfl).lit (k := 1) (m := 6) rfl))) (Lf.val (v := .string ⟨List.toArray p1⟩) rfl rfl (Yl.load rfl (Lds.one Try.isAgg9 (Cls.of (H76.cls (i := 3) rfl) rfl))) ?_))))))
  obtain ⟨r84, hr85⟩ : ∃ q, buffer_touches x38.xOp p1 = q := ⟨_, rfl⟩
  obtain ⟨D79, HP80, ro81, bk82, rr83⟩ := Own.enter0 H76
  refine Lf.do rfl (Do.df rfl (Do.call Try.call25 rfl (buffer_touches_ok _ _ x38.xOp p1 r84 HP80 hr85) ?_))
  rintro _ w86 ⟨rfl, HQ87⟩
  have H88 := bk82 _ _ HQ87
  refine Lf.val (v := .bool (!r84)) rfl rfl (Yl.kern rfl rfl (fun _ => by kernel_rfl)) (Lf.nil (Ff.then ?_))
  rcases Bool.eq_false_or_eq_true (r84) with h89 | h89
  refine Wf.cond0 rfl (congrArg not h89) (Wf.skip (Ff.then (Wf.seq (Wf.seq (Wf.region (Lf.val (v := .pointer (some ⟨g40, 1, none⟩)) rfl rfl (Yl.kern rfl rfl (fun _ => by kernel_rfl)) (Lf.val (v := .pointer (some ⟨g40, 1, none⟩)) rfl rfl (Yl.kern rfl rfl (fun _ => by kernel_rfl)) (Lf.val (v := .int .i64 x38.xOp.xKind) rfl rfl (Yl.load rfl (Lds.one Try.isAgg3 (Cls.of (H88.cls (i := 4) rfl) rfl))) (Lf.val (v := .bool (decide (x38.xOp.xKind = 2))) rfl rfl (Yl.kern rfl rfl (fun _ => by kernel_rfl)) (Lf.nil (Ff.then ?_)))))))))))
  by_cases h90 : x38.xOp.xKind = 2
  refine Wf.cond1 rfl (decide_eq_true h90) (Wf.seq (Wf.region (Lf.val (v := .pointer (some ⟨g40, 1, none⟩)) rfl rfl (Yl.kern rfl rfl (fun _ => by kernel_rfl)) (Lf.val (v := .pointer (some ⟨g40, 3, none⟩)) rfl rfl (Yl.kern rfl rfl (fun _ => by kernel_rfl)) (Lf.val (v := .string ⟨List.toArray x38.xOp.xValue⟩) rfl rfl (Yl.load rfl (Lds.one Try.isAgg9 (Cls.of (H88.cls (i := 4) rfl) rfl))) ?_)))))
  have H91 := H88.pick [2, 0, 1, 3, 4, 5] (by decide) rfl
  refine Lf.do0 (Do.df rfl (Do.store (vs := [.string ⟨List.toArray x38.xOp.xValue⟩]) (o := 0) H91 rfl rfl Try.sizeOf9 rfl rfl rfl rfl ?_))
  intro w92 H93
  have H94 := H93.pick [2, 0, 1, 3, 4, 5] (by decide) rfl
  refine Lf.do0 (Do.df rfl (Do.store (vs := [.bool true]) (o := 0) H94 rfl rfl Try.sizeOf4 rfl rfl rfl rfl ?_))
  intro w95 H96
  have H97 := H96.pick [2, 0, 1, 3, 4, 5] (by decide) rfl
  refine Lf.do0 (Do.df rfl (Do.store (vs := [.bool true]) (o := 0) H97 rfl rfl Try.sizeOf4 rfl rfl rfl rfl ?_))
  intro w98 H99
  refine Lf.nil (Ff.then (Wf.ret (Ff.thenR (Ff.blockR ?_))))
  have H100 := H99.pick [0, 1, 2, 5] (by decide) rfl
  exact fun _ _ _ => (show Own w D w98 [J48 .ret (pre39 ++ [x38]), R68] from by rw [hJ49]; exact Own.exFold (true, true, x38.xOp.xValue) (show Code.ret = .ret ∧ buffer_Find_L0 p1 (List.reverse l0) = Sum.inr (x38.xOp.xValue, true, true) from ⟨rfl, Eq.trans (hq72) (Eq.trans (congrArg (fun q => buffer_Find_L0 p1 q) hd78) (Eq.trans (bnd_of hr85) (Eq.trans (if_pos h89) (if_pos h90))))⟩) H100)
  refine Wf.cond0 rfl (decide_eq_false h90) (Wf.skip (Ff.then (Wf.seq (Wf.region ?_))))
  have H101 := H88.pick [2, 0, 1, 3, 4, 5] (by decide) rfl
  refine Lf.do0 (Do.df rfl (Do.store (vs := [.string ⟨List.toArray ([])⟩]) (o := 0) H101 rfl rfl Try.sizeOf9 rfl rfl rfl rfl ?_))
  intro w102 H103
  have H104 := H103.pick [2, 0, 1, 3, 4, 5] (by decide) rfl
  refine Lf.do0 (Do.df rfl (Do.store (vs := [.bool false]) (o := 0) H104 rfl rfl Try.sizeOf4 rfl rfl rfl rfl ?_))
  intro w105 H106
  have H107 := H106.pick [2, 0, 1, 3, 4, 5] (by decide) rfl
  refine Lf.do0 (Do.df rfl (Do.store (vs := [.bool true]) (o := 0) H107 rfl rfl Try.sizeOf4 rfl rfl rfl rfl ?_))
  intro w108 H109
  refine Lf.nil (Ff.then (Wf.ret (Ff.blockR ?_)))
  have H110 := H109.pick [0, 1, 2, 5] (by decide) rfl
  exact fun _ _ _ => (show Own w D w108 [J48 .ret (pre39 ++ [x38]), R68] from by rw [hJ49]; exact Own.exFold (true, false, []) (show Code.ret = .ret ∧ buffer_Find_L0 p1 (List.reverse l0) = Sum.inr (([]), false, true) from ⟨rfl, Eq.trans (hq72) (Eq.trans (congrArg (fun q => buffer_Find_L0 p1 q) hd78) (Eq.trans (bnd_of hr85) (Eq.trans (if_pos h89) (if_neg h90))))⟩) H110)
  refine Wf.cond1 rfl (congrArg not h89) (Wf.exit (Ff.thenX (Ff.blockX ?_)))
  have H111 := H88.pick [0, 1, 2, 3, 5] (by decide) rfl
  exact fun _ _ _ => (show Own w D w86 [C46 (pre39 ++ [x38]), R68] from by rw [hC47]; exact Own.exFold () (show buffer_Find_L0 p1 (List.reverse l0) = buffer_Find_L0 p1 (List.drop (List.length (pre39 ++ [x38])) (List.reverse l0)) from Eq.trans (hq72) (Eq.trans (congrArg (fun q => buffer_Find_L0 p1 q) hd78) (Eq.trans (bnd_of hr85) (ifF h89)))) H111)
  intro r112 w113 H114
  rw [hC47] at H114
  have H116 := H114.pick [1, 0] (by decide) rfl
  obtain ⟨_, hf118, H117⟩ := Own.exOpen H116
  have H119 : Own w D w113 [blk g30 [.bool false] 4, blk g27 [.bool false] 4, blk g24 [.string ⟨List.toArray ([])⟩] 9, blk g21 [.string ⟨List.toArray p1⟩] 9, obj r112 (.deferred (some []))] := H117
  replace hf118 : buffer_Find_L0 p1 (List.reverse l0) = buffer_Find_L0 p1 (List.drop (List.length (List.reverse l0)) (List.reverse l0)) := hf118
  have hq115 := hf118
  have hL120 : buffer_Find_L0 p1 (List.reverse l0) = Sum.inl () := Eq.trans (hq115) (Eq.trans (congrArg (fun q => buffer_Find_L0 p1 q) (drop_all (List.reverse l0))) rfl)
  refine Ff.blockN (Ff.then (Wf.seq ?_))
  have H121 := H119.pick [0, 1, 2, 4] (by decide) rfl
  refine Wf.region ?_
  have H122 := H121.pick [2, 0, 1, 3] (by decide) rfl
  refine Lf.do0 (Do.df rfl (Do.store (vs := [.string ⟨List.toArray ([])⟩]) (o := 0) H122 rfl rfl Try.sizeOf9 rfl rfl rfl rfl ?_))
  intro w123 H124
  have H125 := H124.pick [2, 0, 1, 3] (by decide) rfl
  refine Lf.do0 (Do.df rfl (Do.store (vs := [.bool false]) (o := 0) H125 rfl rfl Try.sizeOf4 rfl rfl rfl rfl ?_))
  intro w126 H127
  have H128 := H127.pick [2, 0, 1, 3] (by decide) rfl
  refine Lf.do0 (Do.df rfl (Do.store (vs := [.bool false]) (o := 0) H128 rfl rfl Try.sizeOf4 rfl rfl rfl rfl ?_))
  intro w129 H130
  refine Lf.nil (Ff.then (Wf.ret (Ff.res ?_)))
  have H131 := H130.pick [3, 0, 1, 2] (by decide) rfl
  refine Lv.mark H131 ?_
  intro w132 H133
  refine Lv.nil (resN (vs := [.string ⟨List.toArray ([])⟩, .bool false, .bool false]) rfl (ResV.cell rfl (Lds.one Try.isAgg9 (Cls.of (H133.cls (i := 2) rfl) rfl)) (ResV.cell rfl (Lds.one Try.isAgg4 (Cls.of (H133.cls (i := 1) rfl) rfl)) (ResV.cell rfl (Lds.one Try.isAgg4 (Cls.of (H133.cls (i := 0) rfl) rfl)) ResV.nil))) (Nat.le_of_ble_eq_true rfl)) ?_
  have H134 := H133.pick [] (by decide) rfl
  have e : buffer_Find l0 p1 = ([], false, false) := lp_l hL120
  obtain ⟨rfl, rfl, rfl⟩ := pj3 (e.symm.trans hr)
  exact ⟨rfl, H134⟩
  intro r135 pre138 w136 _ H137
  rw [hJ49] at H137
  have H141 := H137.pick [1, 0] (by decide) rfl
  obtain ⟨⟨b50, b51, s52⟩, hf143, H142⟩ := Own.exOpen H141
  have H144 : Own w D w136 [blk g30 [.bool b50] 4, blk g27 [.bool b51] 4, blk g24 [.string ⟨List.toArray s52⟩] 9, obj r135 (.deferred (some []))] := H142
  replace hf143 : Code.ret = .ret ∧ buffer_Find_L0 p1 (List.reverse l0) = Sum.inr (s52, b51, b50) := hf143
  obtain ⟨hc140, hq139⟩ := hf143
  refine Ff.blockR (Ff.thenR (Ff.res ?_))
  have H145 := H144.pick [3, 0, 1, 2] (by decide) rfl
  refine Lv.mark H145 ?_
  intro w146 H147
  refine Lv.nil (resN (vs := [.string ⟨List.toArray s52⟩, .bool b51, .bool b50]) rfl (ResV.cell rfl (Lds.one Try.isAgg9 (Cls.of (H147.cls (i := 2) rfl) rfl)) (ResV.cell rfl (Lds.one Try.isAgg4 (Cls.of (H147.cls (i := 1) rfl) rfl)) (ResV.cell rfl (Lds.one Try.isAgg4 (Cls.of (H147.cls (i := 0) rfl) rfl)) ResV.nil))) (Nat.le_of_ble_eq_true rfl)) ?_
  have H148 := H147.pick [] (by decide) rfl
  have e : buffer_Find l0 p1 = (s52, b51, b50) := lp_r (hq139)
  obtain ⟨rfl, rfl, rfl⟩ := pj3 (e.symm.trans hr)
  exact ⟨rfl, H148⟩
  intro r135 id pre138 w136 _ H137
  rw [hJ49] at H137
  obtain ⟨_, ⟨_, ⟨hc, _⟩, _⟩, _⟩ := H137.get (i := 1) rfl
  cases hc
end Go.Proofs.Ytblpdbnklopchaa
