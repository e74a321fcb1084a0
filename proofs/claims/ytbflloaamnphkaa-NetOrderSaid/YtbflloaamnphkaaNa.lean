/-
  net: a net in memory; contracts of New, Len, check, bytes.Clone, again.
-/
import Derived.Test.YtbflloaamnphkaaKg
namespace Go.Proofs.Ytbflloaamnphkaa
open Go.RowKit
set_option linter.unusedVariables false
set_option linter.unusedSectionVars false

theorem El52 : Elem Try.prog 52 37 3 40 := elem_of (z := .agg #[.int .i64 0, .int .i64 0, .slice none 0 0]) Try.underlying52 (by kernel_rfl) rfl (by decide)

theorem El32 : Elem Try.prog 32 5 1 1 := elem_of (z := .int .u8 0) Try.underlying32 (by kernel_rfl) rfl (by decide)

structure Lt where
  fr : Int
  to : Int
  A : Option Addr
  c : Nat
  bs : List UInt8
def Lt.cells (l : Lt) : List Value := [.int .i64 l.fr, .int .i64 l.to, .slice l.A (List.length l.bs) l.c]
theorem Lt.len : ∀ l, (Lt.cells l).length = 3 := fun _ => rfl
theorem Lt.one : ∀ l, ∀ u ∈ Lt.cells l, u.oneCell' = true := fun l u hu => by
  simp only [Lt.cells, List.mem_cons, List.not_mem_nil, or_false] at hu
  rcases hu with rfl | rfl | rfl <;> rfl
def Lt.own (l : Lt) : HP := row l.A (List.length l.bs) l.c (List.flatMap eB l.bs) 5 1
/-- A net: the block h, a row of letters, and the bytes of each. -/
def net (h : Nat) (ls : List Lt) : HP := fun q => ∃ p : Option Addr × Nat, Sep [blk h [.slice p.1 (List.length ls) p.2] 55, row p.1 (List.length ls) p.2 (List.flatMap Lt.cells ls) 37 3, sepL (ls.map Lt.own)] q
def netS (h : Nat) (ls : List Lt) (p : Option Addr × Nat) : List HP := [blk h [.slice p.1 (List.length ls) p.2] 55, row p.1 (List.length ls) p.2 (List.flatMap Lt.cells ls) 37 3, sepL (ls.map Lt.own)]
theorem net.open {w0 w : World} {D : Nat → Prop} {L : List HP} {h : Nat} {ls : List Lt} (H : Own w0 D w (net h ls :: L)) : ∃ A c, Own w0 D w (blk h [.slice A (List.length ls) c] 55 :: row A (List.length ls) c (List.flatMap Lt.cells ls) 37 3 :: sepL (ls.map Lt.own) :: L) := by
  obtain ⟨p, hp⟩ := H.open (S := netS h ls) fun _ h => h
  exact ⟨p.1, p.2, hp⟩
theorem net.fold {w0 w : World} {D : Nat → Prop} {L : List HP} {h : Nat} {ls : List Lt} {A : Option Addr} {c : Nat} (H : Own w0 D w (blk h [.slice A (List.length ls) c] 55 :: row A (List.length ls) c (List.flatMap Lt.cells ls) 37 3 :: sepL (ls.map Lt.own) :: L)) : Own w0 D w (net h ls :: L) :=
  Own.fold (L1 := netS h ls (A, c)) H fun _ h => ⟨(A, c), h⟩

theorem net.fold2 {w0 w : World} {D : Nat → Prop} {L : List HP} {h n : Nat} {ls : List Lt} {A : Option Addr} {c : Nat} {Ls : List HP} (hn : n = List.length ls) (hL : Ls = ls.map Lt.own) (H : Own w0 D w (blk h [.slice A n c] 55 :: row A n c (List.flatMap Lt.cells ls) 37 3 :: sepL Ls :: L)) : Own w0 D w (net h ls :: L) := by
  subst hn hL; exact net.fold H

set_option maxRecDepth 100000 in
theorem New_ok  (w : World) (D : Nat → Prop) (H : Own w D w [])  :
    Calls Try.prog 6 #[] w (Ret fun v w' => ∃ h, v = .pointer (some ⟨h, 0, none⟩) ∧ Own w D w' [net h []]) := by
  refine Calls.body (args := []) Try.func6 rfl rfl rfl ?_
  show Wp _ _ _ [] _ _
  refine Wp.seq ?_
  refine Wp.region ?_
  refine WL.val (v := .pointer none) rfl (Yl.assign rfl) ?_
  refine WL.nil ?_
  refine Fin.then ?_
  refine Wp.seq ?_
  refine Wp.region ?_
  refine WL.val (v := .agg #[.slice none 0 0]) rfl (Yl.kern rfl rfl (fun _ => by kernel_rfl)) ?_
  refine WL.do rfl (Do.newP (cs := [.slice none 0 0]) (t := 55) H rfl rfl (fun _ => by kernel_rfl) ?_)
  intro g1 w2 H3
  replace H3 : Own w D w2 [blk g1 [.slice none 0 0] 55] := H3
  refine WL.val (v := .pointer (some ⟨g1, 0, none⟩)) rfl (Yl.assign rfl) ?_
  refine WL.nil ?_
  refine Fin.then ?_
  refine Wp.ret ?_
  refine Fin.res (res1 rfl rfl) ?_
  refine ⟨_, rfl, ?_⟩
  exact net.fold (H3.free (row_nil 37 3) |>.sepNil.pick [2, 1, 0] (by decide) rfl)

set_option maxRecDepth 100000 in
theorem Len_ok (h : Nat) (ls : List Lt) (w : World) (D : Nat → Prop) (H : Own w D w [net h ls])  :
    Calls Try.prog 18 #[.pointer (some ⟨h, 0, none⟩)] w (Ret fun v w' => v = .int .i64 ((List.length ls : Nat) : Int) ∧ Own w D w' [net h ls]) := by
  refine Calls.body (args := [.pointer (some ⟨h, 0, none⟩)]) Try.func18 rfl rfl rfl ?_
  show Wp _ _ _ [(0, .pointer (some ⟨h, 0, none⟩))] _ _
  obtain ⟨A1, c2, H3⟩ := net.open H
  have H3le := (H3.rowLe (i := 1) rfl).1
  have H3le2 := (H3.rowLe (i := 1) rfl).2.1
  unfold maxLen at H3le2
  refine Wp.seq ?_
  refine Wp.region ?_
  refine WL.val (v := .int .i64 0) rfl (Yl.assign rfl) ?_
  refine WL.nil ?_
  refine Fin.then ?_
  refine Wp.seq ?_
  refine Wp.region ?_
  refine WL.val (v := .pointer (some ⟨h, 0, none⟩)) rfl (Yl.move rfl) ?_
  refine WL.val (v := .pointer (some ⟨h, 0, none⟩)) rfl (Yl.kern rfl rfl (fun _ => by kernel_rfl)) ?_
  refine WL.val (v := .pointer (some ⟨h, 0, none⟩)) rfl (Yl.kern rfl rfl (fun _ => by kernel_rfl)) ?_
  refine WL.val (v := .slice A1 (List.length ls) c2) rfl (Yl.load rfl (Lds.one Try.isAgg52 (Cls.of (H3.cls (i := 0) rfl) rfl))) ?_
  refine WL.val (v := .int .i64 ((List.length ls : Nat) : Int)) rfl (Yl.kern rfl rfl (fun _ => by kernel_rfl)) ?_
  refine WL.val (v := .int .i64 ((List.length ls : Nat) : Int)) rfl (Yl.assign rfl) ?_
  refine WL.nil ?_
  refine Fin.then ?_
  refine Wp.ret ?_
  refine Fin.res (res1 rfl rfl) ?_
  exact ⟨rfl, net.fold H3⟩

def chkE (n : Nat) (i : Int) : Int := if 0 ≤ i ∧ i < (n : Int) then 0 else 5

set_option maxRecDepth 100000 in
theorem check_ok (h : Nat) (ls : List Lt) (i : Int) (w : World) (D : Nat → Prop) (H : Own w D w [net h ls])  :
    Calls Try.prog 21 #[.pointer (some ⟨h, 0, none⟩), .int .i64 i] w (Ret fun v w' => v = .int .i64 (chkE (List.length ls) i) ∧ Own w D w' [net h ls]) := by
  refine Calls.body (args := [.pointer (some ⟨h, 0, none⟩), .int .i64 i]) Try.func21 rfl rfl rfl ?_
  show Wp _ _ _ [(0, .pointer (some ⟨h, 0, none⟩)), (1, .int .i64 i)] _ _
  obtain ⟨A1, c2, H3⟩ := net.open H
  have H3le := (H3.rowLe (i := 1) rfl).1
  have H3le2 := (H3.rowLe (i := 1) rfl).2.1
  unfold maxLen at H3le2
  refine Wp.seq ?_
  refine Wp.region ?_
  refine WL.val (v := .int .i64 0) rfl (Yl.assign rfl) ?_
  refine WL.nil ?_
  refine Fin.then ?_
  refine Wp.seq ?_
  refine Wp.seq ?_
  refine Wp.region ?_
  refine WL.val (v := .int .i64 i) rfl (Yl.move rfl) ?_
  refine WL.val (v := .bool (decide (i < 0))) rfl (Yl.kern rfl rfl (fun _ => by kernel_rfl)) ?_
  refine WL.val (v := .bool (decide (i < 0))) rfl (Yl.move rfl) ?_
  by_cases h4 : i < 0
  · skip
    refine WL.skipG rfl rfl (decide_eq_true h4) rfl ?_
    refine WL.skipG rfl rfl (decide_eq_true h4) rfl ?_
    refine WL.skipG rfl rfl (decide_eq_true h4) rfl ?_
    refine WL.skipG rfl rfl (decide_eq_true h4) rfl ?_
    refine WL.skipG rfl rfl (decide_eq_true h4) rfl ?_
    refine WL.skipG rfl rfl (decide_eq_true h4) rfl ?_
    refine WL.skipG rfl rfl (decide_eq_true h4) rfl ?_
    refine WL.val (v := .bool true) rfl (Yl.pickT rfl (decide_eq_true h4) rfl) ?_
    refine WL.nil ?_
    refine Fin.then ?_
    refine Wp.cond1 rfl rfl ?_
    refine Wp.seq ?_
    refine Wp.region ?_
    refine WL.val (v := .int .i64 5) rfl (Yl.assign rfl) ?_
    refine WL.nil ?_
    refine Fin.then ?_
    refine Wp.ret ?_
    refine Fin.thenR ?_
    refine Fin.res (res1 rfl rfl) ?_
    exact ⟨by unfold chkE; first | rw [if_pos (by omega)] | rw [if_neg (by omega)], net.fold H3⟩
  · skip
    refine WL.valG (v := .int .i64 i) rfl rfl (decide_eq_false h4) rfl (Yl.move rfl) ?_
    refine WL.valG (v := .pointer (some ⟨h, 0, none⟩)) rfl rfl (decide_eq_false h4) rfl (Yl.move rfl) ?_
    refine WL.valG (v := .pointer (some ⟨h, 0, none⟩)) rfl rfl (decide_eq_false h4) rfl (Yl.kern rfl rfl (fun _ => by kernel_rfl)) ?_
    refine WL.valG (v := .pointer (some ⟨h, 0, none⟩)) rfl rfl (decide_eq_false h4) rfl (Yl.kern rfl rfl (fun _ => by kernel_rfl)) ?_
    refine WL.valG (v := .slice A1 (List.length ls) c2) rfl rfl (decide_eq_false h4) rfl (Yl.load rfl (Lds.one Try.isAgg52 (Cls.of (H3.cls (i := 0) rfl) rfl))) ?_
    refine WL.valG (v := .int .i64 ((List.length ls : Nat) : Int)) rfl rfl (decide_eq_false h4) rfl (Yl.kern rfl rfl (fun _ => by kernel_rfl)) ?_
    refine WL.valG (v := .bool (decide (i ≥ ((List.length ls : Nat) : Int)))) rfl rfl (decide_eq_false h4) rfl (Yl.kern rfl rfl (fun _ => by kernel_rfl)) ?_
    refine WL.val (v := .bool (decide (i ≥ ((List.length ls : Nat) : Int)))) rfl (Yl.pickF rfl (decide_eq_false h4) rfl) ?_
    refine WL.nil ?_
    refine Fin.then ?_
    by_cases h5 : i ≥ ((List.length ls : Nat) : Int)
    · skip
      refine Wp.cond1 rfl (decide_eq_true h5) ?_
      refine Wp.seq ?_
      refine Wp.region ?_
      refine WL.val (v := .int .i64 5) rfl (Yl.assign rfl) ?_
      refine WL.nil ?_
      refine Fin.then ?_
      refine Wp.ret ?_
      refine Fin.thenR ?_
      refine Fin.res (res1 rfl rfl) ?_
      exact ⟨by unfold chkE; first | rw [if_pos (by omega)] | rw [if_neg (by omega)], net.fold H3⟩
    · skip
      refine Wp.cond0 rfl (decide_eq_false h5) ?_
      refine Wp.skip ?_
      refine Fin.then ?_
      refine Wp.seq ?_
      refine Wp.region ?_
      refine WL.val (v := .int .i64 0) rfl (Yl.assign rfl) ?_
      refine WL.nil ?_
      refine Fin.then ?_
      refine Wp.ret ?_
      refine Fin.res (res1 rfl rfl) ?_
      exact ⟨by unfold chkE; first | rw [if_pos (by omega)] | rw [if_neg (by omega)], net.fold H3⟩

set_option maxRecDepth 100000 in
theorem bclone_ok (A : Option Addr) (c : Nat) (bs : List UInt8) (w : World) (D : Nat → Prop) (H : Own w D w []) (hx : Ro w D fun w => Rds w 1 A (List.length bs) (List.flatMap eB bs)) (hb : List.length bs ≤ 1000000) :
    Calls Try.prog 22 #[.slice A (List.length bs) c] w (Ret fun v w' => ∃ A' c', v = .slice A' (List.length bs) c' ∧ Own w D w' [row A' (List.length bs) c' (List.flatMap eB bs) 5 1]) := by
  refine Calls.body (args := [.slice A (List.length bs) c]) Try.func22 rfl rfl rfl ?_
  show Wp _ _ _ [(0, .slice A (List.length bs) c)] _ _
  refine Wp.seq ?_
  refine Wp.region ?_
  refine WL.val (v := .slice none 0 0) rfl (Yl.assign rfl) ?_
  refine WL.nil ?_
  refine Fin.then ?_
  refine Wp.seq ?_
  refine Wp.seq ?_
  refine Wp.region ?_
  refine WL.val (v := .slice A (List.length bs) c) rfl (Yl.move rfl) ?_
  refine WL.val (v := .bool (Option.isNone A)) rfl (Yl.sliceNil Try.underlying32 rfl rfl) ?_
  refine WL.nil ?_
  refine Fin.then ?_
  rcases Bool.eq_false_or_eq_true (Option.isNone A) with h1 | h1
  · skip
    refine Wp.cond1 rfl h1 ?_
    refine Wp.seq ?_
    refine Wp.region ?_
    refine WL.val (v := .slice none 0 0) rfl (Yl.assign rfl) ?_
    refine WL.nil ?_
    refine Fin.then ?_
    refine Wp.ret ?_
    refine Fin.thenR ?_
    refine Fin.res (res1 rfl rfl) ?_
    have hr := H.ro hx
    have h0 : bs = [] := by
      cases bs with
      | nil => rfl
      | cons b t => have := hr.isSome (by simp); rw [this] at h1; cases h1
    subst h0
    exact ⟨none, 0, rfl, H.free (row_nil _ _)⟩
  · skip
    refine Wp.cond0 rfl h1 ?_
    refine Wp.skip ?_
    refine Fin.then ?_
    refine Wp.seq ?_
    refine Wp.region ?_
    refine WL.do rfl (Do.newRow (cs := []) (t := 5) (sz := 1) (m := 0) H rfl rfl (fun _ => by kernel_rfl) rfl (by decide) ?_)
    intro A2 w3 H4
    replace H4 : Own w D w3 [row A2 0 0 (List.flatMap eB ([])) 5 1] := H4
    refine WL.val (v := .slice A (List.length bs) c) rfl (Yl.move rfl) ?_
    refine WL.do rfl (Do.append (k := 0) (m := List.length bs) (El32) H4 rfl rfl (src_of Try.underlying32 (H4.ro hx) (flat_one eB_one bs)) (by unfold maxLen; omega) (by omega) (s := List.length bs) (by omega) rfl ?_)
    intro A5 c6 w7 H8
    replace H8 : Own w D w7 [row A5 (List.length bs) c6 (List.flatMap eB bs) 5 1] := H8
    refine WL.val (v := .slice A5 (List.length bs) c6) rfl (Yl.assign rfl) ?_
    refine WL.nil ?_
    refine Fin.then ?_
    refine Wp.ret ?_
    refine Fin.res (res1 rfl rfl) ?_
    exact ⟨_, _, rfl, H8⟩

set_option maxRecDepth 100000 in
theorem again_ok (l : Lt) (w : World) (D : Nat → Prop) (H : Own w D w []) (hx : Ro w D fun w => Rds w 1 l.A (List.length l.bs) (List.flatMap eB l.bs)) (hb : List.length l.bs ≤ 1000000) :
    Calls Try.prog 23 #[.agg #[.int .i64 l.fr, .int .i64 l.to, .slice l.A (List.length l.bs) l.c]] w (Ret fun v w' => ∃ A' c', v = .agg (Lt.cells (Lt.mk l.fr l.to A' c' l.bs)).toArray ∧ Own w D w' [Lt.own (Lt.mk l.fr l.to A' c' l.bs)]) := by
  refine Calls.body (args := [.agg #[.int .i64 l.fr, .int .i64 l.to, .slice l.A (List.length l.bs) l.c]]) Try.func23 rfl rfl rfl ?_
  show Wp _ _ _ [(0, .agg #[.int .i64 l.fr, .int .i64 l.to, .slice l.A (List.length l.bs) l.c])] _ _
  refine Wp.seq ?_
  refine Wp.region ?_
  refine WL.do rfl (Do.newP (cs := [.int .i64 l.fr, .int .i64 l.to, .slice l.A (List.length l.bs) l.c]) (t := 37) H rfl rfl (fun _ => by kernel_rfl) ?_)
  intro g1 w2 H3
  replace H3 : Own w D w2 [blk g1 [.int .i64 l.fr, .int .i64 l.to, .slice l.A (List.length l.bs) l.c] 37] := H3
  refine WL.do rfl (Do.newP (cs := [.int .i64 0, .int .i64 0, .slice none 0 0]) (t := 37) H3 rfl rfl (fun _ => by kernel_rfl) ?_)
  intro g4 w5 H6
  replace H6 : Own w D w5 [blk g4 [.int .i64 0, .int .i64 0, .slice none 0 0] 37, blk g1 [.int .i64 l.fr, .int .i64 l.to, .slice l.A (List.length l.bs) l.c] 37] := H6
  refine WL.nil ?_
  refine Fin.then ?_
  refine Wp.seq ?_
  refine Wp.region ?_
  refine WL.val (v := .pointer (some ⟨g1, 2, none⟩)) rfl (Yl.kern rfl rfl (fun _ => by kernel_rfl)) ?_
  refine WL.val (v := .slice l.A (List.length l.bs) l.c) rfl (Yl.load rfl (Lds.one Try.isAgg32 (Cls.of (H6.cls (i := 1) rfl) rfl))) ?_
  obtain ⟨D7, HP8, ro9, bk10, rr11⟩ := Own.enter (L1 := []) (L2 := [blk g4 [.int .i64 0, .int .i64 0, .slice none 0 0] 37, blk g1 [.int .i64 l.fr, .int .i64 l.to, .slice l.A (List.length l.bs) l.c] 37]) H6
  refine WL.do rfl (Do.call Try.call22 rfl (bclone_ok l.A l.c l.bs _ _ HP8 (ro9 _ hx) (by omega)) ?_)
  rintro _ w12 ⟨A14, c15, rfl, HQ13⟩
  have H16 : Own w D w12 [row A14 (List.length l.bs) c15 (List.flatMap eB l.bs) 5 1, blk g4 [.int .i64 0, .int .i64 0, .slice none 0 0] 37, blk g1 [.int .i64 l.fr, .int .i64 l.to, .slice l.A (List.length l.bs) l.c] 37] := bk10 _ _ HQ13
  refine WL.val (v := .pointer (some ⟨g1, 2, none⟩)) rfl (Yl.kern rfl rfl (fun _ => by kernel_rfl)) ?_
  have H17 : Own w D w12 [blk g1 [.int .i64 l.fr, .int .i64 l.to, .slice l.A (List.length l.bs) l.c] 37, row A14 (List.length l.bs) c15 (List.flatMap eB l.bs) 5 1, blk g4 [.int .i64 0, .int .i64 0, .slice none 0 0] 37] := H16.pick [2, 0, 1] (by decide) rfl
  refine WL.do0 (Do.store (vs := [.slice A14 (List.length l.bs) c15]) (o := 2) H17 rfl rfl Try.sizeOf32 rfl rfl rfl rfl ?_)
  intro w18 H19
  replace H19 : Own w D w18 [blk g1 [.int .i64 l.fr, .int .i64 l.to, .slice A14 (List.length l.bs) c15] 37, row A14 (List.length l.bs) c15 (List.flatMap eB l.bs) 5 1, blk g4 [.int .i64 0, .int .i64 0, .slice none 0 0] 37] := H19
  refine WL.nil ?_
  refine Fin.then ?_
  refine Wp.seq ?_
  refine Wp.region ?_
  refine WL.val (v := .agg #[.int .i64 l.fr, .int .i64 l.to, .slice A14 (List.length l.bs) c15]) rfl (Yl.load rfl (Lds.agg (cs := [.int .i64 l.fr, .int .i64 l.to, .slice A14 (List.length l.bs) c15]) Try.isAgg37 Try.sizeOf37 ((H19.cls (i := 0) rfl).lit (k := 0) (m := 3) rfl))) ?_
  have H20 : Own w D w18 [blk g4 [.int .i64 0, .int .i64 0, .slice none 0 0] 37, blk g1 [.int .i64 l.fr, .int .i64 l.to, .slice A14 (List.length l.bs) c15] 37, row A14 (List.length l.bs) c15 (List.flatMap eB l.bs) 5 1] := H19.pick [2, 0, 1] (by decide) rfl
  refine WL.do0 (Do.store (vs := [.int .i64 l.fr, .int .i64 l.to, .slice A14 (List.length l.bs) c15]) (o := 0) H20 rfl rfl Try.sizeOf37 rfl rfl rfl rfl ?_)
  intro w21 H22
  replace H22 : Own w D w21 [blk g4 [.int .i64 l.fr, .int .i64 l.to, .slice A14 (List.length l.bs) c15] 37, blk g1 [.int .i64 l.fr, .int .i64 l.to, .slice A14 (List.length l.bs) c15] 37, row A14 (List.length l.bs) c15 (List.flatMap eB l.bs) 5 1] := H22
  refine WL.nil ?_
  refine Fin.then ?_
  refine Wp.ret ?_
  refine Fin.res (resC rfl rfl (Lds.agg (cs := [.int .i64 l.fr, .int .i64 l.to, .slice A14 (List.length l.bs) c15]) Try.isAgg37 Try.sizeOf37 ((H22.cls (i := 0) rfl).lit (k := 0) (m := 3) rfl))) ?_
  have H23 : Own w D w21 [row A14 (List.length l.bs) c15 (List.flatMap eB l.bs) 5 1] := H22.pick [2] (by decide) rfl
  exact ⟨A14, c15, rfl, H23⟩

set_option maxRecDepth 100000 in
theorem add_ok (h : Nat) (ls : List Lt) (l : Lt) (w : World) (D : Nat → Prop) (H : Own w D w [net h ls]) (hx : Ro w D fun w => Rds w 1 l.A (List.length l.bs) (List.flatMap eB l.bs)) (hb : List.length l.bs ≤ 1000000) :
    Calls Try.prog 20 #[.pointer (some ⟨h, 0, none⟩), .agg #[.int .i64 l.fr, .int .i64 l.to, .slice l.A (List.length l.bs) l.c]] w (Ret fun v w' => (128 ≤ List.length ls ∧ v = .int .i64 62 ∧ Own w D w' [net h ls]) ∨ (List.length ls < 128 ∧ v = .int .i64 0 ∧ ∃ A' c', Own w D w' [net h (ls ++ [Lt.mk l.fr l.to A' c' l.bs])])) := by
  refine Calls.body (args := [.pointer (some ⟨h, 0, none⟩), .agg #[.int .i64 l.fr, .int .i64 l.to, .slice l.A (List.length l.bs) l.c]]) Try.func20 rfl rfl rfl ?_
  show Wp _ _ _ [(0, .pointer (some ⟨h, 0, none⟩)), (1, .agg #[.int .i64 l.fr, .int .i64 l.to, .slice l.A (List.length l.bs) l.c])] _ _
  obtain ⟨A1, c2, H3⟩ := net.open H
  have H3le := (H3.rowLe (i := 1) rfl).1
  have H3le2 := (H3.rowLe (i := 1) rfl).2.1
  unfold maxLen at H3le2
  refine Wp.seq ?_
  refine Wp.region ?_
  refine WL.do rfl (Do.newP (cs := [.int .i64 l.fr, .int .i64 l.to, .slice l.A (List.length l.bs) l.c]) (t := 37) H3 rfl rfl (fun _ => by kernel_rfl) ?_)
  intro g4 w5 H6
  replace H6 : Own w D w5 [blk g4 [.int .i64 l.fr, .int .i64 l.to, .slice l.A (List.length l.bs) l.c] 37, blk h [.slice A1 (List.length ls) c2] 55, row A1 (List.length ls) c2 (List.flatMap Lt.cells ls) 37 3, sepL (List.map Lt.own ls)] := H6
  refine WL.val (v := .int .i64 0) rfl (Yl.assign rfl) ?_
  refine WL.nil ?_
  refine Fin.then ?_
  refine Wp.seq ?_
  refine Wp.seq ?_
  refine Wp.region ?_
  refine WL.val (v := .pointer (some ⟨h, 0, none⟩)) rfl (Yl.move rfl) ?_
  refine WL.val (v := .pointer (some ⟨h, 0, none⟩)) rfl (Yl.kern rfl rfl (fun _ => by kernel_rfl)) ?_
  refine WL.val (v := .pointer (some ⟨h, 0, none⟩)) rfl (Yl.kern rfl rfl (fun _ => by kernel_rfl)) ?_
  refine WL.val (v := .slice A1 (List.length ls) c2) rfl (Yl.load rfl (Lds.one Try.isAgg52 (Cls.of (H6.cls (i := 1) rfl) rfl))) ?_
  refine WL.val (v := .int .i64 ((List.length ls : Nat) : Int)) rfl (Yl.kern rfl rfl (fun _ => by kernel_rfl)) ?_
  refine WL.val (v := .bool (decide (((List.length ls : Nat) : Int) ≥ 128))) rfl (Yl.kern rfl rfl (fun _ => by kernel_rfl)) ?_
  refine WL.nil ?_
  refine Fin.then ?_
  by_cases h7 : ((List.length ls : Nat) : Int) ≥ 128
  · skip
    refine Wp.cond1 rfl (decide_eq_true h7) ?_
    refine Wp.seq ?_
    refine Wp.region ?_
    refine WL.val (v := .int .i64 62) rfl (Yl.assign rfl) ?_
    refine WL.nil ?_
    refine Fin.then ?_
    refine Wp.ret ?_
    refine Fin.thenR ?_
    refine Fin.res (res1 rfl rfl) ?_
    have H8 : Own w D w5 [blk h [.slice A1 (List.length ls) c2] 55, row A1 (List.length ls) c2 (List.flatMap Lt.cells ls) 37 3, sepL (List.map Lt.own ls), blk g4 [.int .i64 l.fr, .int .i64 l.to, .slice l.A (List.length l.bs) l.c] 37] := H6.pick [1, 2, 3, 0] (by decide) rfl
    have H9 : Own w D w5 [net h ls, blk g4 [.int .i64 l.fr, .int .i64 l.to, .slice l.A (List.length l.bs) l.c] 37] := net.fold H8
    have H10 : Own w D w5 [net h ls] := H9.pick [0] (by decide) rfl
    exact .inl ⟨by omega, rfl, H10⟩
  · skip
    refine Wp.cond0 rfl (decide_eq_false h7) ?_
    refine Wp.skip ?_
    refine Fin.then ?_
    refine Wp.seq ?_
    have H12 := H6.drew
    refine Wp.drawn (Keep [11] (fun W => ∃ L', Own w D W ([blk g4 [.int .i64 l.fr, .int .i64 l.to, .slice l.A (List.length l.bs) l.c] 37, blk h [.slice A1 (List.length ls) c2] 55] ++ L'))) (by kernel_rfl) (.inr ⟨_, H12⟩) ?_
    revert H12
    generalize World.drew w5 = w11
    intro H12
    replace H12 : Own w D w11 [blk g4 [.int .i64 l.fr, .int .i64 l.to, .slice l.A (List.length l.bs) l.c] 37, blk h [.slice A1 (List.length ls) c2] 55, row A1 (List.length ls) c2 (List.flatMap Lt.cells ls) 37 3, sepL (List.map Lt.own ls)] := H12
    show GW _ _ _ _ 12 #[false, false, false, false, false, false, false, false, false, false, false, false] _ _ _
    refine GW.take (v := .pointer (some ⟨h, 0, none⟩)) (i := 0) (l' := #[true, false, false, false, false, false, false, false, false, false, false, false]) (rs := [[]]) rfl (by kernel_rfl) rfl (NoP.then NoP.base) (by kernel_rfl) (by kernel_rfl) (by kernel_rfl) (by kernel_rfl) (fun _ _ => Yl.move rfl) ?_
    refine GW.take (v := .pointer (some ⟨h, 0, none⟩)) (i := 1) (l' := #[true, true, false, false, false, false, false, false, false, false, false, false]) (rs := [[]]) rfl (by kernel_rfl) rfl (NoP.then NoP.base) (by kernel_rfl) (by kernel_rfl) (by kernel_rfl) (by kernel_rfl) (fun _ _ => Yl.move rfl) ?_
    refine GW.take (v := .pointer (some ⟨h, 0, none⟩)) (i := 2) (l' := #[true, true, true, false, false, false, false, false, false, false, false, false]) (rs := [[]]) rfl (by kernel_rfl) rfl (NoP.then NoP.base) (by kernel_rfl) (by kernel_rfl) (by kernel_rfl) (by kernel_rfl) (fun _ _ => Yl.kern rfl rfl (fun _ => by kernel_rfl)) ?_
    refine GW.take (v := .pointer (some ⟨h, 0, none⟩)) (i := 3) (l' := #[true, true, true, true, false, false, false, false, false, false, false, false]) (rs := [[]]) rfl (by kernel_rfl) rfl (NoP.then NoP.base) (by kernel_rfl) (by kernel_rfl) (by kernel_rfl) (by kernel_rfl) (fun _ _ => Yl.kern rfl rfl (fun _ => by kernel_rfl)) ?_
    refine GW.take (v := .slice A1 (List.length ls) c2) (i := 4) (l' := #[true, true, true, true, true, false, false, false, false, false, false, false]) (rs := [[]]) rfl (by kernel_rfl) rfl (NoP.then NoP.base) (by kernel_rfl) (by kernel_rfl) (by kernel_rfl) (by kernel_rfl) (fun _ ⟨_, H9⟩ => Yl.load rfl (Lds.one Try.isAgg52 (Cls.of (H9.cls (i := 1) rfl) rfl))) ?_
    refine GW.take (v := .agg #[.int .i64 l.fr, .int .i64 l.to, .slice l.A (List.length l.bs) l.c]) (i := 5) (l' := #[true, true, true, true, true, true, false, false, false, false, false, false]) (rs := [[]]) rfl (by kernel_rfl) rfl (NoP.then NoP.base) (by kernel_rfl) (by kernel_rfl) (by kernel_rfl) (by kernel_rfl) (fun _ ⟨_, H9⟩ => Yl.load rfl (Lds.agg (cs := [.int .i64 l.fr, .int .i64 l.to, .slice l.A (List.length l.bs) l.c]) Try.isAgg37 Try.sizeOf37 ((H9.cls (i := 0) rfl).lit (k := 0) (m := 3) rfl))) ?_
    obtain ⟨D14, HP15, ro16, bk17, rr18⟩ := Own.enter (L1 := []) (L2 := [blk g4 [.int .i64 l.fr, .int .i64 l.to, .slice l.A (List.length l.bs) l.c] 37, blk h [.slice A1 (List.length ls) c2] 55, row A1 (List.length ls) c2 (List.flatMap Lt.cells ls) 37 3, sepL (List.map Lt.own ls)]) H12
    refine GW.do (i := 6) (l' := #[true, true, true, true, true, true, true, false, false, false, false, false]) rfl rfl (by kernel_rfl) (by kernel_rfl) (Do.call Try.call23 rfl (again_ok l _ _ HP15 (ro16 _ hx) (by omega)) ?_)
    rintro _ w19 ⟨A21, c22, rfl, HQ20⟩
    have H23 : Own w D w19 [Lt.own (Lt.mk l.fr l.to A21 c22 l.bs), blk g4 [.int .i64 l.fr, .int .i64 l.to, .slice l.A (List.length l.bs) l.c] 37, blk h [.slice A1 (List.length ls) c2] 55, row A1 (List.length ls) c2 (List.flatMap Lt.cells ls) 37 3, sepL (List.map Lt.own ls)] := bk17 _ _ HQ20
    have H24 : Own w D w19 [blk g4 [.int .i64 l.fr, .int .i64 l.to, .slice l.A (List.length l.bs) l.c] 37, blk h [.slice A1 (List.length ls) c2] 55, Lt.own (Lt.mk l.fr l.to A21 c22 l.bs), row A1 (List.length ls) c2 (List.flatMap Lt.cells ls) 37 3, sepL (List.map Lt.own ls)] := H23.pick [1, 2, 0, 3, 4] (by decide) rfl
    refine ⟨.inr ⟨_, H24⟩, ?_⟩
    show GW _ _ _ _ 5 #[true, true, true, true, true, true, true, false, false, false, false, false] _ _ _
    refine GW.do (i := 7) (l' := #[true, true, true, true, true, true, true, true, false, false, false, false]) rfl rfl (by kernel_rfl) (by kernel_rfl) (Do.newRow (cs := [.int .i64 l.fr, .int .i64 l.to, .slice A21 (List.length l.bs) c22]) (t := 37) (sz := 3) (m := 1) H24 rfl rfl (fun _ => by kernel_rfl) rfl (by decide) ?_)
    intro A25 w26 H27
    replace H27 : Own w D w26 [row A25 1 1 (List.flatMap Lt.cells ([(Lt.mk l.fr l.to A21 c22 l.bs)])) 37 3, blk g4 [.int .i64 l.fr, .int .i64 l.to, .slice l.A (List.length l.bs) l.c] 37, blk h [.slice A1 (List.length ls) c2] 55, Lt.own (Lt.mk l.fr l.to A21 c22 l.bs), row A1 (List.length ls) c2 (List.flatMap Lt.cells ls) 37 3, sepL (List.map Lt.own ls)] := H27
    have H28 : Own w D w26 [blk g4 [.int .i64 l.fr, .int .i64 l.to, .slice l.A (List.length l.bs) l.c] 37, blk h [.slice A1 (List.length ls) c2] 55, row A25 1 1 (List.flatMap Lt.cells ([(Lt.mk l.fr l.to A21 c22 l.bs)])) 37 3, Lt.own (Lt.mk l.fr l.to A21 c22 l.bs), row A1 (List.length ls) c2 (List.flatMap Lt.cells ls) 37 3, sepL (List.map Lt.own ls)] := H27.pick [1, 2, 0, 3, 4, 5] (by decide) rfl
    refine ⟨.inr ⟨_, H28⟩, ?_⟩
    show GW _ _ _ _ 4 #[true, true, true, true, true, true, true, true, false, false, false, false] _ _ _
    have H29 : Own w D w26 [row A1 (List.length ls) c2 (List.flatMap Lt.cells ls) 37 3, blk g4 [.int .i64 l.fr, .int .i64 l.to, .slice l.A (List.length l.bs) l.c] 37, blk h [.slice A1 (List.length ls) c2] 55, row A25 1 1 (List.flatMap Lt.cells ([(Lt.mk l.fr l.to A21 c22 l.bs)])) 37 3, Lt.own (Lt.mk l.fr l.to A21 c22 l.bs), sepL (List.map Lt.own ls)] := H28.pick [4, 0, 1, 2, 3, 5] (by decide) rfl
    refine GW.do (i := 8) (l' := #[true, true, true, true, true, true, true, true, true, false, false, false]) rfl rfl (by kernel_rfl) (by kernel_rfl) (Do.append (k := List.length ls) (m := 1) (El52) H29 rfl rfl (src_of Try.underlying52 (H29.rds (i := 3) rfl) (flat_one Lt.one ([(Lt.mk l.fr l.to A21 c22 l.bs)]))) (by unfold maxLen; omega) (by omega) (s := List.length ls + 1) (by omega) (List.flatMap_append).symm ?_)
    intro A30 c31 w32 H33
    replace H33 : Own w D w32 [row A30 (List.length ls + 1) c31 (List.flatMap Lt.cells (ls ++ [(Lt.mk l.fr l.to A21 c22 l.bs)])) 37 3, blk g4 [.int .i64 l.fr, .int .i64 l.to, .slice l.A (List.length l.bs) l.c] 37, blk h [.slice A1 (List.length ls) c2] 55, row A25 1 1 (List.flatMap Lt.cells ([(Lt.mk l.fr l.to A21 c22 l.bs)])) 37 3, Lt.own (Lt.mk l.fr l.to A21 c22 l.bs), sepL (List.map Lt.own ls)] := H33
    have H34 : Own w D w32 [blk g4 [.int .i64 l.fr, .int .i64 l.to, .slice l.A (List.length l.bs) l.c] 37, blk h [.slice A1 (List.length ls) c2] 55, row A30 (List.length ls + 1) c31 (List.flatMap Lt.cells (ls ++ [(Lt.mk l.fr l.to A21 c22 l.bs)])) 37 3, row A25 1 1 (List.flatMap Lt.cells ([(Lt.mk l.fr l.to A21 c22 l.bs)])) 37 3, Lt.own (Lt.mk l.fr l.to A21 c22 l.bs), sepL (List.map Lt.own ls)] := H33.pick [1, 2, 0, 3, 4, 5] (by decide) rfl
    refine ⟨.inr ⟨_, H34⟩, ?_⟩
    show GW _ _ _ _ 3 #[true, true, true, true, true, true, true, true, true, false, false, false] _ _ _
    refine GW.take (v := .pointer (some ⟨h, 0, none⟩)) (i := 9) (l' := #[true, true, true, true, true, true, true, true, true, true, false, false]) (rs := [[10]]) rfl (by kernel_rfl) rfl (NoP.then NoP.base) (by kernel_rfl) (by kernel_rfl) (by kernel_rfl) (by kernel_rfl) (fun _ _ => Yl.kern rfl rfl (fun _ => by kernel_rfl)) ?_
    refine GW.take (v := .pointer (some ⟨h, 0, none⟩)) (i := 10) (l' := #[true, true, true, true, true, true, true, true, true, true, true, false]) (rs := [[]]) rfl (by kernel_rfl) rfl (NoP.then NoP.base) (by kernel_rfl) (by kernel_rfl) (by kernel_rfl) (by kernel_rfl) (fun _ _ => Yl.kern rfl rfl (fun _ => by kernel_rfl)) ?_
    have H35 : Own w D w32 [blk h [.slice A1 (List.length ls) c2] 55, blk g4 [.int .i64 l.fr, .int .i64 l.to, .slice l.A (List.length l.bs) l.c] 37, row A30 (List.length ls + 1) c31 (List.flatMap Lt.cells (ls ++ [(Lt.mk l.fr l.to A21 c22 l.bs)])) 37 3, row A25 1 1 (List.flatMap Lt.cells ([(Lt.mk l.fr l.to A21 c22 l.bs)])) 37 3, Lt.own (Lt.mk l.fr l.to A21 c22 l.bs), sepL (List.map Lt.own ls)] := H34.pick [1, 0, 2, 3, 4, 5] (by decide) rfl
    refine GW.do0 (i := 11) (l' := #[true, true, true, true, true, true, true, true, true, true, true, true]) rfl (by kernel_rfl) (by kernel_rfl) (Do.store (vs := [.slice A30 (List.length ls + 1) c31]) (o := 0) H35 rfl rfl Try.sizeOf52 rfl rfl rfl rfl ?_)
    intro w36 H37
    replace H37 : Own w D w36 [blk h [.slice A30 (List.length ls + 1) c31] 55, blk g4 [.int .i64 l.fr, .int .i64 l.to, .slice l.A (List.length l.bs) l.c] 37, row A30 (List.length ls + 1) c31 (List.flatMap Lt.cells (ls ++ [(Lt.mk l.fr l.to A21 c22 l.bs)])) 37 3, row A25 1 1 (List.flatMap Lt.cells ([(Lt.mk l.fr l.to A21 c22 l.bs)])) 37 3, Lt.own (Lt.mk l.fr l.to A21 c22 l.bs), sepL (List.map Lt.own ls)] := H37
    refine ⟨.inl rfl, ?_⟩
    show GW _ _ _ _ 0 #[true, true, true, true, true, true, true, true, true, true, true, true] _ _ _
    refine GW.done (by kernel_rfl) ?_
    refine Fin.then ?_
    refine Wp.seq ?_
    refine Wp.region ?_
    refine WL.val (v := .int .i64 0) rfl (Yl.assign rfl) ?_
    refine WL.nil ?_
    refine Fin.then ?_
    refine Wp.ret ?_
    refine Fin.res (res1 rfl rfl) ?_
    have H38 : Own w D w36 [Lt.own (Lt.mk l.fr l.to A21 c22 l.bs), sepL (List.map Lt.own ls), blk h [.slice A30 (List.length ls + 1) c31] 55, row A30 (List.length ls + 1) c31 (List.flatMap Lt.cells (ls ++ [(Lt.mk l.fr l.to A21 c22 l.bs)])) 37 3] := H37.pick [4, 5, 0, 2] (by decide) rfl
    have HZ := H38.sepPush
    have HZ2 := HZ.pick [1, 2, 0] (by decide) rfl
    exact .inr ⟨by omega, rfl, A21, c22, net.fold2 (by simp) (by simp) HZ2⟩

theorem Lt.rd {ls : List Lt} {i : Nat} {l : Lt} (hi : ls[i]? = some l) : ∀ w' h, sepL (List.map Lt.own ls) h → (∀ k o, h k = some o → w'.heap[k]? = some o) → Rds w' 1 l.A (List.length l.bs) (List.flatMap eB l.bs) :=
  sepL_rd (R := Lt.own l) (by rw [List.getElem?_map, hi]; rfl) fun _ _ => row_rds _ _

set_option maxRecDepth 100000 in
theorem add_own (h m : Nat) (ls : List Lt) (l : Lt) (w : World) (D : Nat → Prop) (H : Own w D w [net h ls]) (hl : ls[m]? = some l) (hb : List.length l.bs ≤ 1000000) :
    Calls Try.prog 20 #[.pointer (some ⟨h, 0, none⟩), .agg #[.int .i64 l.fr, .int .i64 l.to, .slice l.A (List.length l.bs) l.c]] w (Ret fun v w' => (128 ≤ List.length ls ∧ v = .int .i64 62 ∧ Own w D w' [net h ls]) ∨ (List.length ls < 128 ∧ v = .int .i64 0 ∧ ∃ A' c', Own w D w' [net h (ls ++ [Lt.mk l.fr l.to A' c' l.bs])])) := by
  refine Calls.body (args := [.pointer (some ⟨h, 0, none⟩), .agg #[.int .i64 l.fr, .int .i64 l.to, .slice l.A (List.length l.bs) l.c]]) Try.func20 rfl rfl rfl ?_
  show Wp _ _ _ [(0, .pointer (some ⟨h, 0, none⟩)), (1, .agg #[.int .i64 l.fr, .int .i64 l.to, .slice l.A (List.length l.bs) l.c])] _ _
  obtain ⟨A1, c2, H3⟩ := net.open H
  have H3le := (H3.rowLe (i := 1) rfl).1
  have H3le2 := (H3.rowLe (i := 1) rfl).2.1
  unfold maxLen at H3le2
  refine Wp.seq ?_
  refine Wp.region ?_
  refine WL.do rfl (Do.newP (cs := [.int .i64 l.fr, .int .i64 l.to, .slice l.A (List.length l.bs) l.c]) (t := 37) H3 rfl rfl (fun _ => by kernel_rfl) ?_)
  intro g4 w5 H6
  replace H6 : Own w D w5 [blk g4 [.int .i64 l.fr, .int .i64 l.to, .slice l.A (List.length l.bs) l.c] 37, blk h [.slice A1 (List.length ls) c2] 55, row A1 (List.length ls) c2 (List.flatMap Lt.cells ls) 37 3, sepL (List.map Lt.own ls)] := H6
  refine WL.val (v := .int .i64 0) rfl (Yl.assign rfl) ?_
  refine WL.nil ?_
  refine Fin.then ?_
  refine Wp.seq ?_
  refine Wp.seq ?_
  refine Wp.region ?_
  refine WL.val (v := .pointer (some ⟨h, 0, none⟩)) rfl (Yl.move rfl) ?_
  refine WL.val (v := .pointer (some ⟨h, 0, none⟩)) rfl (Yl.kern rfl rfl (fun _ => by kernel_rfl)) ?_
  refine WL.val (v := .pointer (some ⟨h, 0, none⟩)) rfl (Yl.kern rfl rfl (fun _ => by kernel_rfl)) ?_
  refine WL.val (v := .slice A1 (List.length ls) c2) rfl (Yl.load rfl (Lds.one Try.isAgg52 (Cls.of (H6.cls (i := 1) rfl) rfl))) ?_
  refine WL.val (v := .int .i64 ((List.length ls : Nat) : Int)) rfl (Yl.kern rfl rfl (fun _ => by kernel_rfl)) ?_
  refine WL.val (v := .bool (decide (((List.length ls : Nat) : Int) ≥ 128))) rfl (Yl.kern rfl rfl (fun _ => by kernel_rfl)) ?_
  refine WL.nil ?_
  refine Fin.then ?_
  by_cases h7 : ((List.length ls : Nat) : Int) ≥ 128
  · skip
    refine Wp.cond1 rfl (decide_eq_true h7) ?_
    refine Wp.seq ?_
    refine Wp.region ?_
    refine WL.val (v := .int .i64 62) rfl (Yl.assign rfl) ?_
    refine WL.nil ?_
    refine Fin.then ?_
    refine Wp.ret ?_
    refine Fin.thenR ?_
    refine Fin.res (res1 rfl rfl) ?_
    have H8 : Own w D w5 [blk h [.slice A1 (List.length ls) c2] 55, row A1 (List.length ls) c2 (List.flatMap Lt.cells ls) 37 3, sepL (List.map Lt.own ls), blk g4 [.int .i64 l.fr, .int .i64 l.to, .slice l.A (List.length l.bs) l.c] 37] := H6.pick [1, 2, 3, 0] (by decide) rfl
    have H9 : Own w D w5 [net h ls, blk g4 [.int .i64 l.fr, .int .i64 l.to, .slice l.A (List.length l.bs) l.c] 37] := net.fold H8
    have H10 : Own w D w5 [net h ls] := H9.pick [0] (by decide) rfl
    exact .inl ⟨by omega, rfl, H10⟩
  · skip
    refine Wp.cond0 rfl (decide_eq_false h7) ?_
    refine Wp.skip ?_
    refine Fin.then ?_
    refine Wp.seq ?_
    have H12 := H6.drew
    refine Wp.drawn (Keep [11] (fun W => ∃ L', Own w D W ([blk g4 [.int .i64 l.fr, .int .i64 l.to, .slice l.A (List.length l.bs) l.c] 37, blk h [.slice A1 (List.length ls) c2] 55] ++ L'))) (by kernel_rfl) (.inr ⟨_, H12⟩) ?_
    revert H12
    generalize World.drew w5 = w11
    intro H12
    replace H12 : Own w D w11 [blk g4 [.int .i64 l.fr, .int .i64 l.to, .slice l.A (List.length l.bs) l.c] 37, blk h [.slice A1 (List.length ls) c2] 55, row A1 (List.length ls) c2 (List.flatMap Lt.cells ls) 37 3, sepL (List.map Lt.own ls)] := H12
    show GW _ _ _ _ 12 #[false, false, false, false, false, false, false, false, false, false, false, false] _ _ _
    refine GW.take (v := .pointer (some ⟨h, 0, none⟩)) (i := 0) (l' := #[true, false, false, false, false, false, false, false, false, false, false, false]) (rs := [[]]) rfl (by kernel_rfl) rfl (NoP.then NoP.base) (by kernel_rfl) (by kernel_rfl) (by kernel_rfl) (by kernel_rfl) (fun _ _ => Yl.move rfl) ?_
    refine GW.take (v := .pointer (some ⟨h, 0, none⟩)) (i := 1) (l' := #[true, true, false, false, false, false, false, false, false, false, false, false]) (rs := [[]]) rfl (by kernel_rfl) rfl (NoP.then NoP.base) (by kernel_rfl) (by kernel_rfl) (by kernel_rfl) (by kernel_rfl) (fun _ _ => Yl.move rfl) ?_
    refine GW.take (v := .pointer (some ⟨h, 0, none⟩)) (i := 2) (l' := #[true, true, true, false, false, false, false, false, false, false, false, false]) (rs := [[]]) rfl (by kernel_rfl) rfl (NoP.then NoP.base) (by kernel_rfl) (by kernel_rfl) (by kernel_rfl) (by kernel_rfl) (fun _ _ => Yl.kern rfl rfl (fun _ => by kernel_rfl)) ?_
    refine GW.take (v := .pointer (some ⟨h, 0, none⟩)) (i := 3) (l' := #[true, true, true, true, false, false, false, false, false, false, false, false]) (rs := [[]]) rfl (by kernel_rfl) rfl (NoP.then NoP.base) (by kernel_rfl) (by kernel_rfl) (by kernel_rfl) (by kernel_rfl) (fun _ _ => Yl.kern rfl rfl (fun _ => by kernel_rfl)) ?_
    refine GW.take (v := .slice A1 (List.length ls) c2) (i := 4) (l' := #[true, true, true, true, true, false, false, false, false, false, false, false]) (rs := [[]]) rfl (by kernel_rfl) rfl (NoP.then NoP.base) (by kernel_rfl) (by kernel_rfl) (by kernel_rfl) (by kernel_rfl) (fun _ ⟨_, H9⟩ => Yl.load rfl (Lds.one Try.isAgg52 (Cls.of (H9.cls (i := 1) rfl) rfl))) ?_
    refine GW.take (v := .agg #[.int .i64 l.fr, .int .i64 l.to, .slice l.A (List.length l.bs) l.c]) (i := 5) (l' := #[true, true, true, true, true, true, false, false, false, false, false, false]) (rs := [[]]) rfl (by kernel_rfl) rfl (NoP.then NoP.base) (by kernel_rfl) (by kernel_rfl) (by kernel_rfl) (by kernel_rfl) (fun _ ⟨_, H9⟩ => Yl.load rfl (Lds.agg (cs := [.int .i64 l.fr, .int .i64 l.to, .slice l.A (List.length l.bs) l.c]) Try.isAgg37 Try.sizeOf37 ((H9.cls (i := 0) rfl).lit (k := 0) (m := 3) rfl))) ?_
    obtain ⟨D14, HP15, ro16, bk17, rr18⟩ := Own.enter (L1 := []) (L2 := [blk g4 [.int .i64 l.fr, .int .i64 l.to, .slice l.A (List.length l.bs) l.c] 37, blk h [.slice A1 (List.length ls) c2] 55, row A1 (List.length ls) c2 (List.flatMap Lt.cells ls) 37 3, sepL (List.map Lt.own ls)]) H12
    refine GW.do (i := 6) (l' := #[true, true, true, true, true, true, true, false, false, false, false, false]) rfl rfl (by kernel_rfl) (by kernel_rfl) (Do.call Try.call23 rfl (again_ok l _ _ HP15 (rr18 _ 3 _ rfl (Lt.rd hl)) (by omega)) ?_)
    rintro _ w19 ⟨A21, c22, rfl, HQ20⟩
    have H23 : Own w D w19 [Lt.own (Lt.mk l.fr l.to A21 c22 l.bs), blk g4 [.int .i64 l.fr, .int .i64 l.to, .slice l.A (List.length l.bs) l.c] 37, blk h [.slice A1 (List.length ls) c2] 55, row A1 (List.length ls) c2 (List.flatMap Lt.cells ls) 37 3, sepL (List.map Lt.own ls)] := bk17 _ _ HQ20
    have H24 : Own w D w19 [blk g4 [.int .i64 l.fr, .int .i64 l.to, .slice l.A (List.length l.bs) l.c] 37, blk h [.slice A1 (List.length ls) c2] 55, Lt.own (Lt.mk l.fr l.to A21 c22 l.bs), row A1 (List.length ls) c2 (List.flatMap Lt.cells ls) 37 3, sepL (List.map Lt.own ls)] := H23.pick [1, 2, 0, 3, 4] (by decide) rfl
    refine ⟨.inr ⟨_, H24⟩, ?_⟩
    show GW _ _ _ _ 5 #[true, true, true, true, true, true, true, false, false, false, false, false] _ _ _
    refine GW.do (i := 7) (l' := #[true, true, true, true, true, true, true, true, false, false, false, false]) rfl rfl (by kernel_rfl) (by kernel_rfl) (Do.newRow (cs := [.int .i64 l.fr, .int .i64 l.to, .slice A21 (List.length l.bs) c22]) (t := 37) (sz := 3) (m := 1) H24 rfl rfl (fun _ => by kernel_rfl) rfl (by decide) ?_)
    intro A25 w26 H27
    replace H27 : Own w D w26 [row A25 1 1 (List.flatMap Lt.cells ([(Lt.mk l.fr l.to A21 c22 l.bs)])) 37 3, blk g4 [.int .i64 l.fr, .int .i64 l.to, .slice l.A (List.length l.bs) l.c] 37, blk h [.slice A1 (List.length ls) c2] 55, Lt.own (Lt.mk l.fr l.to A21 c22 l.bs), row A1 (List.length ls) c2 (List.flatMap Lt.cells ls) 37 3, sepL (List.map Lt.own ls)] := H27
    have H28 : Own w D w26 [blk g4 [.int .i64 l.fr, .int .i64 l.to, .slice l.A (List.length l.bs) l.c] 37, blk h [.slice A1 (List.length ls) c2] 55, row A25 1 1 (List.flatMap Lt.cells ([(Lt.mk l.fr l.to A21 c22 l.bs)])) 37 3, Lt.own (Lt.mk l.fr l.to A21 c22 l.bs), row A1 (List.length ls) c2 (List.flatMap Lt.cells ls) 37 3, sepL (List.map Lt.own ls)] := H27.pick [1, 2, 0, 3, 4, 5] (by decide) rfl
    refine ⟨.inr ⟨_, H28⟩, ?_⟩
    show GW _ _ _ _ 4 #[true, true, true, true, true, true, true, true, false, false, false, false] _ _ _
    have H29 : Own w D w26 [row A1 (List.length ls) c2 (List.flatMap Lt.cells ls) 37 3, blk g4 [.int .i64 l.fr, .int .i64 l.to, .slice l.A (List.length l.bs) l.c] 37, blk h [.slice A1 (List.length ls) c2] 55, row A25 1 1 (List.flatMap Lt.cells ([(Lt.mk l.fr l.to A21 c22 l.bs)])) 37 3, Lt.own (Lt.mk l.fr l.to A21 c22 l.bs), sepL (List.map Lt.own ls)] := H28.pick [4, 0, 1, 2, 3, 5] (by decide) rfl
    refine GW.do (i := 8) (l' := #[true, true, true, true, true, true, true, true, true, false, false, false]) rfl rfl (by kernel_rfl) (by kernel_rfl) (Do.append (k := List.length ls) (m := 1) (El52) H29 rfl rfl (src_of Try.underlying52 (H29.rds (i := 3) rfl) (flat_one Lt.one ([(Lt.mk l.fr l.to A21 c22 l.bs)]))) (by unfold maxLen; omega) (by omega) (s := List.length ls + 1) (by omega) (List.flatMap_append).symm ?_)
    intro A30 c31 w32 H33
    replace H33 : Own w D w32 [row A30 (List.length ls + 1) c31 (List.flatMap Lt.cells (ls ++ [(Lt.mk l.fr l.to A21 c22 l.bs)])) 37 3, blk g4 [.int .i64 l.fr, .int .i64 l.to, .slice l.A (List.length l.bs) l.c] 37, blk h [.slice A1 (List.length ls) c2] 55, row A25 1 1 (List.flatMap Lt.cells ([(Lt.mk l.fr l.to A21 c22 l.bs)])) 37 3, Lt.own (Lt.mk l.fr l.to A21 c22 l.bs), sepL (List.map Lt.own ls)] := H33
    have H34 : Own w D w32 [blk g4 [.int .i64 l.fr, .int .i64 l.to, .slice l.A (List.length l.bs) l.c] 37, blk h [.slice A1 (List.length ls) c2] 55, row A30 (List.length ls + 1) c31 (List.flatMap Lt.cells (ls ++ [(Lt.mk l.fr l.to A21 c22 l.bs)])) 37 3, row A25 1 1 (List.flatMap Lt.cells ([(Lt.mk l.fr l.to A21 c22 l.bs)])) 37 3, Lt.own (Lt.mk l.fr l.to A21 c22 l.bs), sepL (List.map Lt.own ls)] := H33.pick [1, 2, 0, 3, 4, 5] (by decide) rfl
    refine ⟨.inr ⟨_, H34⟩, ?_⟩
    show GW _ _ _ _ 3 #[true, true, true, true, true, true, true, true, true, false, false, false] _ _ _
    refine GW.take (v := .pointer (some ⟨h, 0, none⟩)) (i := 9) (l' := #[true, true, true, true, true, true, true, true, true, true, false, false]) (rs := [[10]]) rfl (by kernel_rfl) rfl (NoP.then NoP.base) (by kernel_rfl) (by kernel_rfl) (by kernel_rfl) (by kernel_rfl) (fun _ _ => Yl.kern rfl rfl (fun _ => by kernel_rfl)) ?_
    refine GW.take (v := .pointer (some ⟨h, 0, none⟩)) (i := 10) (l' := #[true, true, true, true, true, true, true, true, true, true, true, false]) (rs := [[]]) rfl (by kernel_rfl) rfl (NoP.then NoP.base) (by kernel_rfl) (by kernel_rfl) (by kernel_rfl) (by kernel_rfl) (fun _ _ => Yl.kern rfl rfl (fun _ => by kernel_rfl)) ?_
    have H35 : Own w D w32 [blk h [.slice A1 (List.length ls) c2] 55, blk g4 [.int .i64 l.fr, .int .i64 l.to, .slice l.A (List.length l.bs) l.c] 37, row A30 (List.length ls + 1) c31 (List.flatMap Lt.cells (ls ++ [(Lt.mk l.fr l.to A21 c22 l.bs)])) 37 3, row A25 1 1 (List.flatMap Lt.cells ([(Lt.mk l.fr l.to A21 c22 l.bs)])) 37 3, Lt.own (Lt.mk l.fr l.to A21 c22 l.bs), sepL (List.map Lt.own ls)] := H34.pick [1, 0, 2, 3, 4, 5] (by decide) rfl
    refine GW.do0 (i := 11) (l' := #[true, true, true, true, true, true, true, true, true, true, true, true]) rfl (by kernel_rfl) (by kernel_rfl) (Do.store (vs := [.slice A30 (List.length ls + 1) c31]) (o := 0) H35 rfl rfl Try.sizeOf52 rfl rfl rfl rfl ?_)
    intro w36 H37
    replace H37 : Own w D w36 [blk h [.slice A30 (List.length ls + 1) c31] 55, blk g4 [.int .i64 l.fr, .int .i64 l.to, .slice l.A (List.length l.bs) l.c] 37, row A30 (List.length ls + 1) c31 (List.flatMap Lt.cells (ls ++ [(Lt.mk l.fr l.to A21 c22 l.bs)])) 37 3, row A25 1 1 (List.flatMap Lt.cells ([(Lt.mk l.fr l.to A21 c22 l.bs)])) 37 3, Lt.own (Lt.mk l.fr l.to A21 c22 l.bs), sepL (List.map Lt.own ls)] := H37
    refine ⟨.inl rfl, ?_⟩
    show GW _ _ _ _ 0 #[true, true, true, true, true, true, true, true, true, true, true, true] _ _ _
    refine GW.done (by kernel_rfl) ?_
    refine Fin.then ?_
    refine Wp.seq ?_
    refine Wp.region ?_
    refine WL.val (v := .int .i64 0) rfl (Yl.assign rfl) ?_
    refine WL.nil ?_
    refine Fin.then ?_
    refine Wp.ret ?_
    refine Fin.res (res1 rfl rfl) ?_
    have H38 : Own w D w36 [Lt.own (Lt.mk l.fr l.to A21 c22 l.bs), sepL (List.map Lt.own ls), blk h [.slice A30 (List.length ls + 1) c31] 55, row A30 (List.length ls + 1) c31 (List.flatMap Lt.cells (ls ++ [(Lt.mk l.fr l.to A21 c22 l.bs)])) 37 3] := H37.pick [4, 5, 0, 2] (by decide) rfl
    have HZ := H38.sepPush
    have HZ2 := HZ.pick [1, 2, 0] (by decide) rfl
    exact .inr ⟨by omega, rfl, A21, c22, net.fold2 (by simp) (by simp) HZ2⟩

set_option maxRecDepth 100000 in
theorem Send_ok (h : Nat) (ls : List Lt) (fr to : Int) (A : Option Addr) (c : Nat) (bs : List UInt8) (w : World) (D : Nat → Prop) (H : Own w D w [net h ls]) (hx : Ro w D fun w => Rds w 1 A (List.length bs) (List.flatMap eB bs)) :
    Calls Try.prog 7 #[.pointer (some ⟨h, 0, none⟩), .int .i64 fr, .int .i64 to, .slice A (List.length bs) c] w (Ret fun v w' => ((fr < 0 ∨ to < 0) ∧ v = .int .i64 1 ∧ Own w D w' [net h ls]) ∨ ((0 ≤ fr ∧ 0 ≤ to) ∧ 4103 < List.length bs ∧ v = .int .i64 2 ∧ Own w D w' [net h ls]) ∨ ((0 ≤ fr ∧ 0 ≤ to ∧ List.length bs ≤ 4103) ∧ 128 ≤ List.length ls ∧ v = .int .i64 62 ∧ Own w D w' [net h ls]) ∨ ((0 ≤ fr ∧ 0 ≤ to ∧ List.length bs ≤ 4103) ∧ List.length ls < 128 ∧ v = .int .i64 0 ∧ ∃ A' c', Own w D w' [net h (ls ++ [Lt.mk fr to A' c' bs])])) := by
  refine Calls.body (args := [.pointer (some ⟨h, 0, none⟩), .int .i64 fr, .int .i64 to, .slice A (List.length bs) c]) Try.func7 rfl rfl rfl ?_
  show Wp _ _ _ [(0, .pointer (some ⟨h, 0, none⟩)), (1, .int .i64 fr), (2, .int .i64 to), (3, .slice A (List.length bs) c)] _ _
  refine Wp.seq ?_
  refine Wp.region ?_
  refine WL.val (v := .int .i64 0) rfl (Yl.assign rfl) ?_
  refine WL.nil ?_
  refine Fin.then ?_
  refine Wp.seq ?_
  refine Wp.seq ?_
  refine Wp.region ?_
  refine WL.val (v := .int .i64 fr) rfl (Yl.move rfl) ?_
  refine WL.val (v := .bool (decide (fr < 0))) rfl (Yl.kern rfl rfl (fun _ => by kernel_rfl)) ?_
  refine WL.val (v := .bool (decide (fr < 0))) rfl (Yl.move rfl) ?_
  by_cases h1 : fr < 0
  · skip
    refine WL.skipG rfl rfl (decide_eq_true h1) rfl ?_
    refine WL.skipG rfl rfl (decide_eq_true h1) rfl ?_
    refine WL.val (v := .bool true) rfl (Yl.pickT rfl (decide_eq_true h1) rfl) ?_
    refine WL.nil ?_
    refine Fin.then ?_
    refine Wp.cond1 rfl rfl ?_
    refine Wp.seq ?_
    refine Wp.region ?_
    refine WL.val (v := .int .i64 1) rfl (Yl.assign rfl) ?_
    refine WL.nil ?_
    refine Fin.then ?_
    refine Wp.ret ?_
    refine Fin.thenR ?_
    refine Fin.res (res1 rfl rfl) ?_
    exact .inl ⟨by omega, rfl, H⟩
  · skip
    refine WL.valG (v := .int .i64 to) rfl rfl (decide_eq_false h1) rfl (Yl.move rfl) ?_
    refine WL.valG (v := .bool (decide (to < 0))) rfl rfl (decide_eq_false h1) rfl (Yl.kern rfl rfl (fun _ => by kernel_rfl)) ?_
    refine WL.val (v := .bool (decide (to < 0))) rfl (Yl.pickF rfl (decide_eq_false h1) rfl) ?_
    refine WL.nil ?_
    refine Fin.then ?_
    by_cases h2 : to < 0
    · skip
      refine Wp.cond1 rfl (decide_eq_true h2) ?_
      refine Wp.seq ?_
      refine Wp.region ?_
      refine WL.val (v := .int .i64 1) rfl (Yl.assign rfl) ?_
      refine WL.nil ?_
      refine Fin.then ?_
      refine Wp.ret ?_
      refine Fin.thenR ?_
      refine Fin.res (res1 rfl rfl) ?_
      exact .inl ⟨by omega, rfl, H⟩
    · skip
      refine Wp.cond0 rfl (decide_eq_false h2) ?_
      refine Wp.skip ?_
      refine Fin.then ?_
      refine Wp.seq ?_
      refine Wp.seq ?_
      refine Wp.region ?_
      refine WL.val (v := .slice A (List.length bs) c) rfl (Yl.move rfl) ?_
      refine WL.val (v := .int .i64 ((List.length bs : Nat) : Int)) rfl (Yl.kern rfl rfl (fun _ => by kernel_rfl)) ?_
      refine WL.val (v := .bool (decide (((List.length bs : Nat) : Int) > 4103))) rfl (Yl.kern rfl rfl (fun _ => by kernel_rfl)) ?_
      refine WL.nil ?_
      refine Fin.then ?_
      by_cases h3 : ((List.length bs : Nat) : Int) > 4103
      · skip
        refine Wp.cond1 rfl (decide_eq_true h3) ?_
        refine Wp.seq ?_
        refine Wp.region ?_
        refine WL.val (v := .int .i64 2) rfl (Yl.assign rfl) ?_
        refine WL.nil ?_
        refine Fin.then ?_
        refine Wp.ret ?_
        refine Fin.thenR ?_
        refine Fin.res (res1 rfl rfl) ?_
        exact .inr (.inl ⟨by omega, by omega, rfl, H⟩)
      · skip
        refine Wp.cond0 rfl (decide_eq_false h3) ?_
        refine Wp.skip ?_
        refine Fin.then ?_
        refine Wp.seq ?_
        refine Wp.region ?_
        refine WL.val (v := .pointer (some ⟨h, 0, none⟩)) rfl (Yl.move rfl) ?_
        refine WL.val (v := .int .i64 fr) rfl (Yl.move rfl) ?_
        refine WL.val (v := .int .i64 to) rfl (Yl.move rfl) ?_
        refine WL.val (v := .slice A (List.length bs) c) rfl (Yl.move rfl) ?_
        refine WL.val (v := .agg #[.int .i64 fr, .int .i64 to, .slice A (List.length bs) c]) rfl (Yl.kern rfl rfl (fun _ => by kernel_rfl)) ?_
        obtain ⟨D4, HP5, ro6, bk7, rr8⟩ := Own.enter (L1 := [net h ls]) (L2 := []) H
        refine WL.do rfl (Do.call Try.call20 rfl (add_ok h ls ⟨fr, to, A, c, bs⟩ _ _ HP5 (ro6 _ hx) (by show List.length bs ≤ _; omega)) ?_)
        rintro _ w9 (⟨q11, rfl, HQ10⟩ | ⟨q13, rfl, A14, c15, HQ12⟩)
        · skip
          have H16 : Own w D w9 [net h ls] := bk7 _ _ HQ10
          refine WL.val (v := .int .i64 62) rfl (Yl.assign rfl) ?_
          refine WL.nil ?_
          refine Fin.then ?_
          refine Wp.ret ?_
          refine Fin.res (res1 rfl rfl) ?_
          exact .inr (.inr (.inl ⟨by omega, by omega, rfl, H16⟩))
        · skip
          have H17 : Own w D w9 [net h (ls ++ [(Lt.mk fr to A14 c15 bs)])] := bk7 _ _ HQ12
          refine WL.val (v := .int .i64 0) rfl (Yl.assign rfl) ?_
          refine WL.nil ?_
          refine Fin.then ?_
          refine Wp.ret ?_
          refine Fin.res (res1 rfl rfl) ?_
          exact .inr (.inr (.inr ⟨by omega, by omega, rfl, A14, c15, H17⟩))

theorem Send_put (h : Nat) (ls : List Lt) (fr to : Int) (A : Option Addr) (c : Nat) (bs : List UInt8) (w : World) (D : Nat → Prop) (H : Own w D w [net h ls]) (hx : Ro w D fun w => Rds w 1 A (List.length bs) (List.flatMap eB bs)) (h1 : 0 ≤ fr) (h2 : 0 ≤ to) (h3 : List.length bs ≤ 4103) (h4 : List.length ls < 128) :
    Calls Try.prog 7 #[.pointer (some ⟨h, 0, none⟩), .int .i64 fr, .int .i64 to, .slice A (List.length bs) c] w (Ret fun v w' => v = .int .i64 0 ∧ ∃ A' c', Own w D w' [net h (ls ++ [Lt.mk fr to A' c' bs])]) :=
  Ret.mono (Send_ok h ls fr to A c bs w D H hx) fun v w' r => by
    rcases r with ⟨r, _⟩ | ⟨_, r, _⟩ | ⟨_, r, _⟩ | ⟨_, _, r⟩
    · omega
    · omega
    · omega
    · exact r
theorem Double_cons : True := trivial
end Go.Proofs.Ytbflloaamnphkaa
