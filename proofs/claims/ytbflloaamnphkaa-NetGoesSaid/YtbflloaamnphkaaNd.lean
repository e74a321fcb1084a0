/-
  net: the reference's contracts.
-/
import Derived.Test.YtbflloaamnphkaaNb
import Derived.Test.YtbflloaamnphkaaKh
namespace Go.Proofs.Ytbflloaamnphkaa
open Go.RowKit
set_option linter.unusedVariables false
set_option linter.unusedSectionVars false

theorem El27 : Elem Try.prog 27 41 3 32 := elem_of (z := .agg #[.int .i64 0, .int .i64 0, .string ⟨List.toArray ([])⟩]) Try.underlying27 (by kernel_rfl) rfl (by decide)

def kC (k : Int × Int × List UInt8) : List Value := [.int .i64 k.1, .int .i64 k.2.1, .string ⟨List.toArray k.2.2⟩]
theorem kC_len : ∀ k, (kC k).length = 3 := fun _ => rfl
theorem kC_one : ∀ x, ∀ u ∈ kC x, u.oneCell' = true := fun x u hu => by
  simp only [kC, List.mem_cons, List.not_mem_nil, or_false] at hu
  rcases hu with rfl | rfl | rfl <;> rfl
def rnetS (g : Nat) (ks : List (Int × Int × List UInt8)) (p : Option Addr × Nat) : List HP := [blk g [.slice p.1 (List.length ks) p.2] 29, row p.1 (List.length ks) p.2 (List.flatMap kC ks) 41 3]
/-- The reference's net. -/
def rnet (g : Nat) (ks : List (Int × Int × List UInt8)) : HP := fun q => ∃ p : Option Addr × Nat, Sep (rnetS g ks p) q
theorem rnet.open {w0 w : World} {D : Nat → Prop} {L : List HP} {g : Nat} {ks : List (Int × Int × List UInt8)} (H : Own w0 D w (rnet g ks :: L)) : ∃ A c, Own w0 D w (blk g [.slice A (List.length ks) c] 29 :: row A (List.length ks) c (List.flatMap kC ks) 41 3 :: L) := by
  obtain ⟨p, hp⟩ := H.open (S := rnetS g ks) fun _ h => h
  exact ⟨p.1, p.2, hp⟩
theorem rnet.fold2 {w0 w : World} {D : Nat → Prop} {L : List HP} {g n : Nat} {ks : List (Int × Int × List UInt8)} {A : Option Addr} {c : Nat} (hn : n = List.length ks) (H : Own w0 D w (blk g [.slice A n c] 29 :: row A n c (List.flatMap kC ks) 41 3 :: L)) : Own w0 D w (rnet g ks :: L) := by
  subst hn; exact Own.fold (L1 := rnetS g ks (A, c)) H fun _ h => ⟨(A, c), h⟩
theorem len_keys (ls : List Lt) : (keys ls).length = ls.length := by simp [keys]
theorem key_at {ls : List Lt} {m : Nat} {l : Lt} (h : ls[m]? = some l) : (keys ls)[m]? = some l.key := by simp [keys, h]
theorem take_drop_erase {α : Type} (ls : List α) (m : Nat) : List.take m ls ++ List.drop (m + 1) ls = List.eraseIdx ls m := (List.eraseIdx_eq_take_drop_succ ls m).symm

set_option maxRecDepth 100000 in
theorem RSend_ok (g : Nat) (ks : List (Int × Int × List UInt8)) (fr to : Int) (bs : List UInt8) (w : World) (D : Nat → Prop) (H : Own w D w [rnet g ks]) (hb : List.length bs ≤ 1000000) :
    Calls Try.prog 8 #[.pointer (some ⟨g, 0, none⟩), .int .i64 fr, .int .i64 to, .string ⟨List.toArray bs⟩] w (Ret fun v w' => ((fr < 0 ∨ to < 0) ∧ v = .int .i64 1 ∧ Own w D w' [rnet g ks]) ∨ ((0 ≤ fr ∧ 0 ≤ to) ∧ 4103 < List.length bs ∧ v = .int .i64 2 ∧ Own w D w' [rnet g ks]) ∨ ((0 ≤ fr ∧ 0 ≤ to ∧ List.length bs ≤ 4103) ∧ 128 ≤ List.length ks ∧ v = .int .i64 62 ∧ Own w D w' [rnet g ks]) ∨ ((0 ≤ fr ∧ 0 ≤ to ∧ List.length bs ≤ 4103) ∧ List.length ks < 128 ∧ v = .int .i64 0 ∧ Own w D w' [rnet g (ks ++ [(fr, to, bs)])])) := by
  refine Calls.body (args := [.pointer (some ⟨g, 0, none⟩), .int .i64 fr, .int .i64 to, .string ⟨List.toArray bs⟩]) Try.func8 rfl rfl rfl ?_
  show Wp _ _ _ [(0, .pointer (some ⟨g, 0, none⟩)), (1, .int .i64 fr), (2, .int .i64 to), (3, .string ⟨List.toArray bs⟩)] _ _
  obtain ⟨A1, c2, H3⟩ := rnet.open H
  have H3le := (H3.rowLe (i := 1) rfl).1
  have H3le2 := (H3.rowLe (i := 1) rfl).2.1
  unfold maxLen at H3le2
  refine Wp.seq ?_
  refine Wp.region ?_
  refine WL.val (v := .int .i64 0) rfl (Yl.assign rfl) ?_
  refine WL.nil ?_
  refine Fin.then ?_
  refine Wp.seq ?_
  refine Wp.block ?_
  refine Wp.seq ?_
  refine Wp.region ?_
  refine WL.val (v := .int .i64 fr) rfl (Yl.move rfl) ?_
  refine WL.val (v := .bool (decide (fr < 0))) rfl (Yl.kern rfl rfl (fun _ => by kernel_rfl)) ?_
  refine WL.val (v := .bool (decide (fr < 0))) rfl (Yl.move rfl) ?_
  by_cases h4 : fr < 0
  · skip
    refine WL.skipG rfl rfl (decide_eq_true h4) rfl ?_
    refine WL.skipG rfl rfl (decide_eq_true h4) rfl ?_
    refine WL.val (v := .bool true) rfl (Yl.pickT rfl (decide_eq_true h4) rfl) ?_
    refine WL.val (v := .bool true) rfl (Yl.assign rfl) ?_
    refine WL.nil ?_
    refine Fin.then ?_
    refine Wp.cond1 rfl rfl ?_
    refine Wp.seq ?_
    refine Wp.region ?_
    refine WL.val (v := .int .i64 1) rfl (Yl.assign rfl) ?_
    refine WL.nil ?_
    refine Fin.then ?_
    refine Wp.ret ?_
    refine Fin.blockR ?_
    refine Fin.thenR ?_
    refine Fin.res (res1 rfl rfl) ?_
    have H5 : Own w D w [blk g [.slice A1 (List.length ks) c2] 29, row A1 (List.length ks) c2 (List.flatMap kC ks) 41 3] := H3.pick [0, 1] (by decide) rfl
    exact .inl ⟨by omega, rfl, (rnet.fold2 (n := List.length ks) rfl H5)⟩
  · skip
    refine WL.valG (v := .int .i64 to) rfl rfl (decide_eq_false h4) rfl (Yl.move rfl) ?_
    refine WL.valG (v := .bool (decide (to < 0))) rfl rfl (decide_eq_false h4) rfl (Yl.kern rfl rfl (fun _ => by kernel_rfl)) ?_
    refine WL.val (v := .bool (decide (to < 0))) rfl (Yl.pickF rfl (decide_eq_false h4) rfl) ?_
    refine WL.val (v := .bool (decide (to < 0))) rfl (Yl.assign rfl) ?_
    refine WL.nil ?_
    refine Fin.then ?_
    by_cases h6 : to < 0
    · skip
      refine Wp.cond1 rfl (decide_eq_true h6) ?_
      refine Wp.seq ?_
      refine Wp.region ?_
      refine WL.val (v := .int .i64 1) rfl (Yl.assign rfl) ?_
      refine WL.nil ?_
      refine Fin.then ?_
      refine Wp.ret ?_
      refine Fin.blockR ?_
      refine Fin.thenR ?_
      refine Fin.res (res1 rfl rfl) ?_
      have H7 : Own w D w [blk g [.slice A1 (List.length ks) c2] 29, row A1 (List.length ks) c2 (List.flatMap kC ks) 41 3] := H3.pick [0, 1] (by decide) rfl
      exact .inl ⟨by omega, rfl, (rnet.fold2 (n := List.length ks) rfl H7)⟩
    · skip
      refine Wp.cond0 rfl (decide_eq_false h6) ?_
      refine Wp.seq ?_
      refine Wp.region ?_
      refine WL.val (v := .string ⟨List.toArray bs⟩) rfl (Yl.move rfl) ?_
      refine WL.val (v := .int .i64 ((List.length bs : Nat) : Int)) rfl (Yl.kern rfl rfl (fun _ => by kernel_rfl)) ?_
      refine WL.val (v := .bool (decide (((List.length bs : Nat) : Int) > 4103))) rfl (Yl.kern rfl rfl (fun _ => by kernel_rfl)) ?_
      refine WL.val (v := .bool (decide (((List.length bs : Nat) : Int) > 4103))) rfl (Yl.assign rfl) ?_
      refine WL.nil ?_
      refine Fin.then ?_
      by_cases h8 : ((List.length bs : Nat) : Int) > 4103
      · skip
        refine Wp.cond1 rfl (decide_eq_true h8) ?_
        refine Wp.seq ?_
        refine Wp.region ?_
        refine WL.val (v := .int .i64 2) rfl (Yl.assign rfl) ?_
        refine WL.nil ?_
        refine Fin.then ?_
        refine Wp.ret ?_
        refine Fin.blockR ?_
        refine Fin.thenR ?_
        refine Fin.res (res1 rfl rfl) ?_
        have H9 : Own w D w [blk g [.slice A1 (List.length ks) c2] 29, row A1 (List.length ks) c2 (List.flatMap kC ks) 41 3] := H3.pick [0, 1] (by decide) rfl
        exact .inr (.inl ⟨by omega, by omega, rfl, (rnet.fold2 (n := List.length ks) rfl H9)⟩)
      · skip
        refine Wp.cond0 rfl (decide_eq_false h8) ?_
        refine Wp.seq ?_
        refine Wp.region ?_
        refine WL.val (v := .pointer (some ⟨g, 0, none⟩)) rfl (Yl.move rfl) ?_
        refine WL.val (v := .pointer (some ⟨g, 0, none⟩)) rfl (Yl.kern rfl rfl (fun _ => by kernel_rfl)) ?_
        refine WL.val (v := .pointer (some ⟨g, 0, none⟩)) rfl (Yl.kern rfl rfl (fun _ => by kernel_rfl)) ?_
        refine WL.val (v := .slice A1 (List.length ks) c2) rfl (Yl.load rfl (Lds.one Try.isAgg27 (Cls.of (H3.cls (i := 0) rfl) rfl))) ?_
        refine WL.val (v := .int .i64 ((List.length ks : Nat) : Int)) rfl (Yl.kern rfl rfl (fun _ => by kernel_rfl)) ?_
        refine WL.val (v := .bool (decide (((List.length ks : Nat) : Int) ≥ 128))) rfl (Yl.kern rfl rfl (fun _ => by kernel_rfl)) ?_
        refine WL.val (v := .bool (decide (((List.length ks : Nat) : Int) ≥ 128))) rfl (Yl.assign rfl) ?_
        refine WL.nil ?_
        refine Fin.then ?_
        by_cases h10 : ((List.length ks : Nat) : Int) ≥ 128
        · skip
          refine Wp.cond1 rfl (decide_eq_true h10) ?_
          refine Wp.seq ?_
          refine Wp.region ?_
          refine WL.val (v := .int .i64 62) rfl (Yl.assign rfl) ?_
          refine WL.nil ?_
          refine Fin.then ?_
          refine Wp.ret ?_
          refine Fin.blockR ?_
          refine Fin.thenR ?_
          refine Fin.res (res1 rfl rfl) ?_
          have H11 : Own w D w [blk g [.slice A1 (List.length ks) c2] 29, row A1 (List.length ks) c2 (List.flatMap kC ks) 41 3] := H3.pick [0, 1] (by decide) rfl
          exact .inr (.inr (.inl ⟨by omega, by omega, rfl, (rnet.fold2 (n := List.length ks) rfl H11)⟩))
        · skip
          refine Wp.cond0 rfl (decide_eq_false h10) ?_
          refine Wp.skip ?_
          refine Fin.blockN ?_
          refine Fin.then ?_
          refine Wp.seq ?_
          have H13 := H3.drew
          refine Wp.drawn (Keep [24] (fun W => ∃ L', Own w D W ([blk g [.slice A1 (List.length ks) c2] 29, row A1 (List.length ks) c2 (List.flatMap kC ks) 41 3] ++ L'))) (by kernel_rfl) (.inr ⟨_, H13⟩) ?_
          revert H13
          generalize World.drew w = w12
          intro H13
          replace H13 : Own w D w12 [blk g [.slice A1 (List.length ks) c2] 29, row A1 (List.length ks) c2 (List.flatMap kC ks) 41 3] := H13
          show GW _ _ _ _ 25 #[false, false, false, false, false, false, false, false, false, false, false, false, false, false, false, false, false, false, false, false, false, false, false, false, false] _ _ _
          refine GW.take (v := .pointer (some ⟨g, 0, none⟩)) (i := 0) (l' := #[true, false, false, false, false, false, false, false, false, false, false, false, false, false, false, false, false, false, false, false, false, false, false, false, false]) (rs := [[]]) rfl (by kernel_rfl) rfl (NoP.then NoP.base) (by kernel_rfl) (by kernel_rfl) (by kernel_rfl) (by kernel_rfl) (fun _ _ => Yl.move rfl) ?_
          refine GW.take (v := .pointer (some ⟨g, 0, none⟩)) (i := 1) (l' := #[true, true, false, false, false, false, false, false, false, false, false, false, false, false, false, false, false, false, false, false, false, false, false, false, false]) (rs := [[]]) rfl (by kernel_rfl) rfl (NoP.then NoP.base) (by kernel_rfl) (by kernel_rfl) (by kernel_rfl) (by kernel_rfl) (fun _ _ => Yl.move rfl) ?_
          refine GW.take (v := .pointer (some ⟨g, 0, none⟩)) (i := 2) (l' := #[true, true, true, false, false, false, false, false, false, false, false, false, false, false, false, false, false, false, false, false, false, false, false, false, false]) (rs := [[]]) rfl (by kernel_rfl) rfl (NoP.then NoP.base) (by kernel_rfl) (by kernel_rfl) (by kernel_rfl) (by kernel_rfl) (fun _ _ => Yl.kern rfl rfl (fun _ => by kernel_rfl)) ?_
          refine GW.take (v := .pointer (some ⟨g, 0, none⟩)) (i := 3) (l' := #[true, true, true, true, false, false, false, false, false, false, false, false, false, false, false, false, false, false, false, false, false, false, false, false, false]) (rs := [[]]) rfl (by kernel_rfl) rfl (NoP.then NoP.base) (by kernel_rfl) (by kernel_rfl) (by kernel_rfl) (by kernel_rfl) (fun _ _ => Yl.kern rfl rfl (fun _ => by kernel_rfl)) ?_
          refine GW.take (v := .slice A1 (List.length ks) c2) (i := 4) (l' := #[true, true, true, true, true, false, false, false, false, false, false, false, false, false, false, false, false, false, false, false, false, false, false, false, false]) (rs := [[]]) rfl (by kernel_rfl) rfl (NoP.then NoP.base) (by kernel_rfl) (by kernel_rfl) (by kernel_rfl) (by kernel_rfl) (fun _ ⟨_, H9⟩ => Yl.load rfl (Lds.one Try.isAgg27 (Cls.of (H9.cls (i := 0) rfl) rfl))) ?_
          refine GW.take (v := .pointer (some ⟨g, 0, none⟩)) (i := 5) (l' := #[true, true, true, true, true, true, false, false, false, false, false, false, false, false, false, false, false, false, false, false, false, false, false, false, false]) (rs := [[]]) rfl (by kernel_rfl) rfl (NoP.then NoP.base) (by kernel_rfl) (by kernel_rfl) (by kernel_rfl) (by kernel_rfl) (fun _ _ => Yl.move rfl) ?_
          refine GW.take (v := .pointer (some ⟨g, 0, none⟩)) (i := 6) (l' := #[true, true, true, true, true, true, true, false, false, false, false, false, false, false, false, false, false, false, false, false, false, false, false, false, false]) (rs := [[]]) rfl (by kernel_rfl) rfl (NoP.then NoP.base) (by kernel_rfl) (by kernel_rfl) (by kernel_rfl) (by kernel_rfl) (fun _ _ => Yl.kern rfl rfl (fun _ => by kernel_rfl)) ?_
          refine GW.take (v := .pointer (some ⟨g, 0, none⟩)) (i := 7) (l' := #[true, true, true, true, true, true, true, true, false, false, false, false, false, false, false, false, false, false, false, false, false, false, false, false, false]) (rs := [[]]) rfl (by kernel_rfl) rfl (NoP.then NoP.base) (by kernel_rfl) (by kernel_rfl) (by kernel_rfl) (by kernel_rfl) (fun _ _ => Yl.kern rfl rfl (fun _ => by kernel_rfl)) ?_
          refine GW.take (v := .slice A1 (List.length ks) c2) (i := 8) (l' := #[true, true, true, true, true, true, true, true, true, false, false, false, false, false, false, false, false, false, false, false, false, false, false, false, false]) (rs := [[]]) rfl (by kernel_rfl) rfl (NoP.then NoP.base) (by kernel_rfl) (by kernel_rfl) (by kernel_rfl) (by kernel_rfl) (fun _ ⟨_, H9⟩ => Yl.load rfl (Lds.one Try.isAgg27 (Cls.of (H9.cls (i := 0) rfl) rfl))) ?_
          refine GW.take (v := .int .i64 ((List.length ks : Nat) : Int)) (i := 9) (l' := #[true, true, true, true, true, true, true, true, true, true, false, false, false, false, false, false, false, false, false, false, false, false, false, false, false]) (rs := [[]]) rfl (by kernel_rfl) rfl (NoP.then NoP.base) (by kernel_rfl) (by kernel_rfl) (by kernel_rfl) (by kernel_rfl) (fun _ _ => Yl.kern rfl rfl (fun _ => by kernel_rfl)) ?_
          refine GW.take (v := .pointer (some ⟨g, 0, none⟩)) (i := 10) (l' := #[true, true, true, true, true, true, true, true, true, true, true, false, false, false, false, false, false, false, false, false, false, false, false, false, false]) (rs := [[]]) rfl (by kernel_rfl) rfl (NoP.then NoP.base) (by kernel_rfl) (by kernel_rfl) (by kernel_rfl) (by kernel_rfl) (fun _ _ => Yl.move rfl) ?_
          refine GW.take (v := .pointer (some ⟨g, 0, none⟩)) (i := 11) (l' := #[true, true, true, true, true, true, true, true, true, true, true, true, false, false, false, false, false, false, false, false, false, false, false, false, false]) (rs := [[]]) rfl (by kernel_rfl) rfl (NoP.then NoP.base) (by kernel_rfl) (by kernel_rfl) (by kernel_rfl) (by kernel_rfl) (fun _ _ => Yl.kern rfl rfl (fun _ => by kernel_rfl)) ?_
          refine GW.take (v := .pointer (some ⟨g, 0, none⟩)) (i := 12) (l' := #[true, true, true, true, true, true, true, true, true, true, true, true, true, false, false, false, false, false, false, false, false, false, false, false, false]) (rs := [[]]) rfl (by kernel_rfl) rfl (NoP.then NoP.base) (by kernel_rfl) (by kernel_rfl) (by kernel_rfl) (by kernel_rfl) (fun _ _ => Yl.kern rfl rfl (fun _ => by kernel_rfl)) ?_
          refine GW.take (v := .slice A1 (List.length ks) c2) (i := 13) (l' := #[true, true, true, true, true, true, true, true, true, true, true, true, true, true, false, false, false, false, false, false, false, false, false, false, false]) (rs := [[]]) rfl (by kernel_rfl) rfl (NoP.then NoP.base) (by kernel_rfl) (by kernel_rfl) (by kernel_rfl) (by kernel_rfl) (fun _ ⟨_, H9⟩ => Yl.load rfl (Lds.one Try.isAgg27 (Cls.of (H9.cls (i := 0) rfl) rfl))) ?_
          refine GW.take (v := .int .i64 ((List.length ks : Nat) : Int)) (i := 14) (l' := #[true, true, true, true, true, true, true, true, true, true, true, true, true, true, true, false, false, false, false, false, false, false, false, false, false]) (rs := [[]]) rfl (by kernel_rfl) rfl (NoP.then NoP.base) (by kernel_rfl) (by kernel_rfl) (by kernel_rfl) (by kernel_rfl) (fun _ _ => Yl.kern rfl rfl (fun _ => by kernel_rfl)) ?_
          refine GW.take (v := .slice A1 (List.length ks) (List.length ks)) (i := 15) (l' := #[true, true, true, true, true, true, true, true, true, true, true, true, true, true, true, true, false, false, false, false, false, false, false, false, false]) (rs := [[]]) rfl (by kernel_rfl) rfl (NoP.then NoP.base) (by kernel_rfl) (by kernel_rfl) (by kernel_rfl) (by kernel_rfl) (fun _ _ => Yl.cut3 (El27) rfl rfl rfl (by omega) (by omega)) ?_
          refine GW.take (v := .int .i64 fr) (i := 16) (l' := #[true, true, true, true, true, true, true, true, true, true, true, true, true, true, true, true, true, false, false, false, false, false, false, false, false]) (rs := [[]]) rfl (by kernel_rfl) rfl (NoP.then NoP.base) (by kernel_rfl) (by kernel_rfl) (by kernel_rfl) (by kernel_rfl) (fun _ _ => Yl.move rfl) ?_
          refine GW.take (v := .int .i64 to) (i := 17) (l' := #[true, true, true, true, true, true, true, true, true, true, true, true, true, true, true, true, true, true, false, false, false, false, false, false, false]) (rs := [[]]) rfl (by kernel_rfl) rfl (NoP.then NoP.base) (by kernel_rfl) (by kernel_rfl) (by kernel_rfl) (by kernel_rfl) (fun _ _ => Yl.move rfl) ?_
          refine GW.take (v := .string ⟨List.toArray bs⟩) (i := 18) (l' := #[true, true, true, true, true, true, true, true, true, true, true, true, true, true, true, true, true, true, true, false, false, false, false, false, false]) (rs := [[]]) rfl (by kernel_rfl) rfl (NoP.then NoP.base) (by kernel_rfl) (by kernel_rfl) (by kernel_rfl) (by kernel_rfl) (fun _ _ => Yl.move rfl) ?_
          refine GW.take (v := .agg #[.int .i64 fr, .int .i64 to, .string ⟨List.toArray bs⟩]) (i := 19) (l' := #[true, true, true, true, true, true, true, true, true, true, true, true, true, true, true, true, true, true, true, true, false, false, false, false, false]) (rs := [[]]) rfl (by kernel_rfl) rfl (NoP.then NoP.base) (by kernel_rfl) (by kernel_rfl) (by kernel_rfl) (by kernel_rfl) (fun _ _ => Yl.kern rfl rfl (fun _ => by kernel_rfl)) ?_
          refine GW.do (i := 20) (l' := #[true, true, true, true, true, true, true, true, true, true, true, true, true, true, true, true, true, true, true, true, true, false, false, false, false]) rfl rfl (by kernel_rfl) (by kernel_rfl) (Do.newRow (cs := [.int .i64 fr, .int .i64 to, .string ⟨List.toArray bs⟩]) (t := 41) (sz := 3) (m := 1) H13 rfl rfl (fun _ => by kernel_rfl) rfl (by decide) ?_)
          intro A15 w16 H17
          replace H17 : Own w D w16 [row A15 1 1 (List.flatMap kC ([(fr, to, bs)])) 41 3, blk g [.slice A1 (List.length ks) c2] 29, row A1 (List.length ks) c2 (List.flatMap kC ks) 41 3] := H17
          have H18 : Own w D w16 [blk g [.slice A1 (List.length ks) c2] 29, row A1 (List.length ks) c2 (List.flatMap kC ks) 41 3, row A15 1 1 (List.flatMap kC ([(fr, to, bs)])) 41 3] := H17.pick [1, 2, 0] (by decide) rfl
          refine ⟨.inr ⟨_, H18⟩, ?_⟩
          show GW _ _ _ _ 4 #[true, true, true, true, true, true, true, true, true, true, true, true, true, true, true, true, true, true, true, true, true, false, false, false, false] _ _ _
          refine GW.do (i := 21) (l' := #[true, true, true, true, true, true, true, true, true, true, true, true, true, true, true, true, true, true, true, true, true, true, false, false, false]) rfl rfl (by kernel_rfl) (by kernel_rfl) (Do.appendNew (k := List.length ks) (m := 1) (El27) H18 (H18.rds (i := 1) rfl) rfl rfl (src_of Try.underlying27 (H18.rds (i := 2) rfl) (flat_one kC_one ([(fr, to, bs)]))) (by omega) (by unfold maxLen; omega) (by omega) (s := List.length ks + 1) (by omega) (List.flatMap_append).symm ?_)
          intro A19 c20 w21 H22
          replace H22 : Own w D w21 [row A19 (List.length ks + 1) c20 (List.flatMap kC (ks ++ [(fr, to, bs)])) 41 3, blk g [.slice A1 (List.length ks) c2] 29, row A1 (List.length ks) c2 (List.flatMap kC ks) 41 3, row A15 1 1 (List.flatMap kC ([(fr, to, bs)])) 41 3] := H22
          have H23 : Own w D w21 [blk g [.slice A1 (List.length ks) c2] 29, row A1 (List.length ks) c2 (List.flatMap kC ks) 41 3, row A19 (List.length ks + 1) c20 (List.flatMap kC (ks ++ [(fr, to, bs)])) 41 3, row A15 1 1 (List.flatMap kC ([(fr, to, bs)])) 41 3] := H22.pick [1, 2, 0, 3] (by decide) rfl
          refine ⟨.inr ⟨_, H23⟩, ?_⟩
          show GW _ _ _ _ 3 #[true, true, true, true, true, true, true, true, true, true, true, true, true, true, true, true, true, true, true, true, true, true, false, false, false] _ _ _
          refine GW.take (v := .pointer (some ⟨g, 0, none⟩)) (i := 22) (l' := #[true, true, true, true, true, true, true, true, true, true, true, true, true, true, true, true, true, true, true, true, true, true, true, false, false]) (rs := [[23]]) rfl (by kernel_rfl) rfl (NoP.then NoP.base) (by kernel_rfl) (by kernel_rfl) (by kernel_rfl) (by kernel_rfl) (fun _ _ => Yl.kern rfl rfl (fun _ => by kernel_rfl)) ?_
          refine GW.take (v := .pointer (some ⟨g, 0, none⟩)) (i := 23) (l' := #[true, true, true, true, true, true, true, true, true, true, true, true, true, true, true, true, true, true, true, true, true, true, true, true, false]) (rs := [[]]) rfl (by kernel_rfl) rfl (NoP.then NoP.base) (by kernel_rfl) (by kernel_rfl) (by kernel_rfl) (by kernel_rfl) (fun _ _ => Yl.kern rfl rfl (fun _ => by kernel_rfl)) ?_
          refine GW.do0 (i := 24) (l' := #[true, true, true, true, true, true, true, true, true, true, true, true, true, true, true, true, true, true, true, true, true, true, true, true, true]) rfl (by kernel_rfl) (by kernel_rfl) (Do.store (vs := [.slice A19 (List.length ks + 1) c20]) (o := 0) H23 rfl rfl Try.sizeOf27 rfl rfl rfl rfl ?_)
          intro w24 H25
          replace H25 : Own w D w24 [blk g [.slice A19 (List.length ks + 1) c20] 29, row A1 (List.length ks) c2 (List.flatMap kC ks) 41 3, row A19 (List.length ks + 1) c20 (List.flatMap kC (ks ++ [(fr, to, bs)])) 41 3, row A15 1 1 (List.flatMap kC ([(fr, to, bs)])) 41 3] := H25
          refine ⟨.inl rfl, ?_⟩
          show GW _ _ _ _ 0 #[true, true, true, true, true, true, true, true, true, true, true, true, true, true, true, true, true, true, true, true, true, true, true, true, true] _ _ _
          refine GW.done (by kernel_rfl) ?_
          refine Fin.then ?_
          refine Wp.seq ?_
          refine Wp.region ?_
          refine WL.val (v := .int .i64 0) rfl (Yl.assign rfl) ?_
          refine WL.nil ?_
          refine Fin.then ?_
          refine Wp.ret ?_
          refine Fin.res (res1 rfl rfl) ?_
          have H26 : Own w D w24 [blk g [.slice A19 (List.length ks + 1) c20] 29, row A19 (List.length ks + 1) c20 (List.flatMap kC (ks ++ [(fr, to, bs)])) 41 3] := H25.pick [0, 2] (by decide) rfl
          exact .inr (.inr (.inr ⟨by omega, by omega, rfl, (rnet.fold2 (n := List.length ks + 1) (by simp) H26)⟩))

set_option maxRecDepth 100000 in
theorem RTake_ok (g m : Nat) (ks : List (Int × Int × List UInt8)) (k : Int × Int × List UInt8) (w : World) (D : Nat → Prop) (H : Own w D w [rnet g ks]) (hk : ks[m]? = some k) (hle : List.length ks ≤ 1000000) :
    Calls Try.prog 10 #[.pointer (some ⟨g, 0, none⟩), .int .i64 ((m : Nat) : Int)] w (Ret fun v w' => v = .tuple #[.agg (kC k).toArray, .int .i64 0] ∧ Own w D w' [rnet g (List.eraseIdx ks m)]) := by
  have hm : m < List.length ks := (List.getElem?_eq_some_iff.1 hk).1
  refine Calls.body (args := [.pointer (some ⟨g, 0, none⟩), .int .i64 ((m : Nat) : Int)]) Try.func10 rfl rfl rfl ?_
  show Wp _ _ _ [(0, .pointer (some ⟨g, 0, none⟩)), (1, .int .i64 ((m : Nat) : Int))] _ _
  obtain ⟨A1, c2, H3⟩ := rnet.open H
  have H3le := (H3.rowLe (i := 1) rfl).1
  have H3le2 := (H3.rowLe (i := 1) rfl).2.1
  unfold maxLen at H3le2
  refine Wp.seq ?_
  refine Wp.region ?_
  refine WL.do rfl (Do.newP (cs := [.int .i64 0, .int .i64 0, .string ⟨List.toArray ([])⟩]) (t := 41) H3 rfl rfl (fun _ => by kernel_rfl) ?_)
  intro g4 w5 H6
  replace H6 : Own w D w5 [blk g4 [.int .i64 0, .int .i64 0, .string ⟨List.toArray ([])⟩] 41, blk g [.slice A1 (List.length ks) c2] 29, row A1 (List.length ks) c2 (List.flatMap kC ks) 41 3] := H6
  refine WL.val (v := .int .i64 0) rfl (Yl.assign rfl) ?_
  refine WL.nil ?_
  refine Fin.then ?_
  refine Wp.seq ?_
  refine Wp.seq ?_
  refine Wp.region ?_
  refine WL.val (v := .int .i64 ((m : Nat) : Int)) rfl (Yl.move rfl) ?_
  refine WL.val (v := .bool (decide (((m : Nat) : Int) < 0))) rfl (Yl.kern rfl rfl (fun _ => by kernel_rfl)) ?_
  refine WL.val (v := .bool (decide (((m : Nat) : Int) < 0))) rfl (Yl.move rfl) ?_
  have hb7 : (decide (((m : Nat) : Int) < 0)) = false := (decide_eq_false (by omega))
  refine WL.valG (v := .int .i64 ((m : Nat) : Int)) rfl rfl hb7 rfl (Yl.move rfl) ?_
  refine WL.valG (v := .pointer (some ⟨g, 0, none⟩)) rfl rfl hb7 rfl (Yl.move rfl) ?_
  refine WL.valG (v := .pointer (some ⟨g, 0, none⟩)) rfl rfl hb7 rfl (Yl.kern rfl rfl (fun _ => by kernel_rfl)) ?_
  refine WL.valG (v := .pointer (some ⟨g, 0, none⟩)) rfl rfl hb7 rfl (Yl.kern rfl rfl (fun _ => by kernel_rfl)) ?_
  refine WL.valG (v := .slice A1 (List.length ks) c2) rfl rfl hb7 rfl (Yl.load rfl (Lds.one Try.isAgg27 (Cls.of (H6.cls (i := 1) rfl) rfl))) ?_
  refine WL.valG (v := .int .i64 ((List.length ks : Nat) : Int)) rfl rfl hb7 rfl (Yl.kern rfl rfl (fun _ => by kernel_rfl)) ?_
  refine WL.valG (v := .bool (decide (((m : Nat) : Int) ≥ ((List.length ks : Nat) : Int)))) rfl rfl hb7 rfl (Yl.kern rfl rfl (fun _ => by kernel_rfl)) ?_
  refine WL.val (v := .bool (decide (((m : Nat) : Int) ≥ ((List.length ks : Nat) : Int)))) rfl (Yl.pickF rfl hb7 rfl) ?_
  refine WL.nil ?_
  refine Fin.then ?_
  have hb8 : (decide (((m : Nat) : Int) ≥ ((List.length ks : Nat) : Int))) = false := (decide_eq_false (by omega))
  refine Wp.cond0 rfl hb8 ?_
  refine Wp.skip ?_
  refine Fin.then ?_
  refine Wp.seq ?_
  refine Wp.region ?_
  refine WL.val (v := .pointer (some ⟨g, 0, none⟩)) rfl (Yl.move rfl) ?_
  refine WL.val (v := .pointer (some ⟨g, 0, none⟩)) rfl (Yl.kern rfl rfl (fun _ => by kernel_rfl)) ?_
  refine WL.val (v := .pointer (some ⟨g, 0, none⟩)) rfl (Yl.kern rfl rfl (fun _ => by kernel_rfl)) ?_
  refine WL.val (v := .slice A1 (List.length ks) c2) rfl (Yl.load rfl (Lds.one Try.isAgg27 (Cls.of (H6.cls (i := 1) rfl) rfl))) ?_
  refine WL.val (v := .int .i64 ((m : Nat) : Int)) rfl (Yl.move rfl) ?_
  refine WL.val (v := .pointer (some ⟨ab A1, ao A1 + m * 3, none⟩)) rfl (Yl.indexAddr (El27) rfl rfl ((H6.rds (i := 2) rfl).addr (i := m) (by omega)) (by omega)) ?_
  refine WL.val (v := .agg #[.int .i64 k.1, .int .i64 k.2.1, .string ⟨List.toArray k.2.2⟩]) rfl (Yl.load rfl (Lds.agg (cs := [.int .i64 k.1, .int .i64 k.2.1, .string ⟨List.toArray k.2.2⟩]) Try.isAgg41 Try.sizeOf41 ((H6.rds (i := 2) rfl).elem kC_len hk (by decide)))) ?_
  refine WL.do rfl (Do.newP (cs := [.int .i64 0, .int .i64 0, .string ⟨List.toArray ([])⟩]) (t := 41) H6 rfl rfl (fun _ => by kernel_rfl) ?_)
  intro g9 w10 H11
  replace H11 : Own w D w10 [blk g9 [.int .i64 0, .int .i64 0, .string ⟨List.toArray ([])⟩] 41, blk g4 [.int .i64 0, .int .i64 0, .string ⟨List.toArray ([])⟩] 41, blk g [.slice A1 (List.length ks) c2] 29, row A1 (List.length ks) c2 (List.flatMap kC ks) 41 3] := H11
  refine WL.do0 (Do.store (vs := [.int .i64 k.1, .int .i64 k.2.1, .string ⟨List.toArray k.2.2⟩]) (o := 0) H11 rfl rfl Try.sizeOf41 rfl rfl rfl rfl ?_)
  intro w12 H13
  replace H13 : Own w D w12 [blk g9 [.int .i64 k.1, .int .i64 k.2.1, .string ⟨List.toArray k.2.2⟩] 41, blk g4 [.int .i64 0, .int .i64 0, .string ⟨List.toArray ([])⟩] 41, blk g [.slice A1 (List.length ks) c2] 29, row A1 (List.length ks) c2 (List.flatMap kC ks) 41 3] := H13
  refine WL.nil ?_
  refine Fin.then ?_
  refine Wp.seq ?_
  have H15 := H13.drew
  refine Wp.drawn (Keep [18] (fun W => ∃ L', Own w D W ([blk g9 [.int .i64 k.1, .int .i64 k.2.1, .string ⟨List.toArray k.2.2⟩] 41, blk g4 [.int .i64 0, .int .i64 0, .string ⟨List.toArray ([])⟩] 41, blk g [.slice A1 (List.length ks) c2] 29, row A1 (List.length ks) c2 (List.flatMap kC ks) 41 3] ++ L'))) (by kernel_rfl) (.inr ⟨_, H15⟩) ?_
  revert H15
  generalize World.drew w12 = w14
  intro H15
  replace H15 : Own w D w14 [blk g9 [.int .i64 k.1, .int .i64 k.2.1, .string ⟨List.toArray k.2.2⟩] 41, blk g4 [.int .i64 0, .int .i64 0, .string ⟨List.toArray ([])⟩] 41, blk g [.slice A1 (List.length ks) c2] 29, row A1 (List.length ks) c2 (List.flatMap kC ks) 41 3] := H15
  show GW _ _ _ _ 19 #[false, false, false, false, false, false, false, false, false, false, false, false, false, false, false, false, false, false, false] _ _ _
  refine GW.take (v := .pointer (some ⟨g, 0, none⟩)) (i := 0) (l' := #[true, false, false, false, false, false, false, false, false, false, false, false, false, false, false, false, false, false, false]) (rs := [[]]) rfl (by kernel_rfl) rfl (NoP.then NoP.base) (by kernel_rfl) (by kernel_rfl) (by kernel_rfl) (by kernel_rfl) (fun _ _ => Yl.move rfl) ?_
  refine GW.take (v := .pointer (some ⟨g, 0, none⟩)) (i := 1) (l' := #[true, true, false, false, false, false, false, false, false, false, false, false, false, false, false, false, false, false, false]) (rs := [[]]) rfl (by kernel_rfl) rfl (NoP.then NoP.base) (by kernel_rfl) (by kernel_rfl) (by kernel_rfl) (by kernel_rfl) (fun _ _ => Yl.move rfl) ?_
  refine GW.take (v := .pointer (some ⟨g, 0, none⟩)) (i := 2) (l' := #[true, true, true, false, false, false, false, false, false, false, false, false, false, false, false, false, false, false, false]) (rs := [[]]) rfl (by kernel_rfl) rfl (NoP.then NoP.base) (by kernel_rfl) (by kernel_rfl) (by kernel_rfl) (by kernel_rfl) (fun _ _ => Yl.kern rfl rfl (fun _ => by kernel_rfl)) ?_
  refine GW.take (v := .pointer (some ⟨g, 0, none⟩)) (i := 3) (l' := #[true, true, true, true, false, false, false, false, false, false, false, false, false, false, false, false, false, false, false]) (rs := [[]]) rfl (by kernel_rfl) rfl (NoP.then NoP.base) (by kernel_rfl) (by kernel_rfl) (by kernel_rfl) (by kernel_rfl) (fun _ _ => Yl.kern rfl rfl (fun _ => by kernel_rfl)) ?_
  refine GW.take (v := .slice A1 (List.length ks) c2) (i := 4) (l' := #[true, true, true, true, true, false, false, false, false, false, false, false, false, false, false, false, false, false, false]) (rs := [[]]) rfl (by kernel_rfl) rfl (NoP.then NoP.base) (by kernel_rfl) (by kernel_rfl) (by kernel_rfl) (by kernel_rfl) (fun _ ⟨_, H9⟩ => Yl.load rfl (Lds.one Try.isAgg27 (Cls.of (H9.cls (i := 2) rfl) rfl))) ?_
  refine GW.take (v := .int .i64 ((m : Nat) : Int)) (i := 5) (l' := #[true, true, true, true, true, true, false, false, false, false, false, false, false, false, false, false, false, false, false]) (rs := [[]]) rfl (by kernel_rfl) rfl (NoP.then NoP.base) (by kernel_rfl) (by kernel_rfl) (by kernel_rfl) (by kernel_rfl) (fun _ _ => Yl.move rfl) ?_
  refine GW.take (v := .slice A1 m c2) (i := 6) (l' := #[true, true, true, true, true, true, true, false, false, false, false, false, false, false, false, false, false, false, false]) (rs := [[]]) rfl (by kernel_rfl) rfl (NoP.then NoP.base) (by kernel_rfl) (by kernel_rfl) (by kernel_rfl) (by kernel_rfl) (fun _ _ => Yl.cutTo (El27) rfl rfl (by omega)) ?_
  refine GW.take (v := .pointer (some ⟨g, 0, none⟩)) (i := 8) (l' := #[true, true, true, true, true, true, true, false, true, false, false, false, false, false, false, false, false, false, false]) (rs := [[]]) rfl (by kernel_rfl) rfl (NoP.then NoP.base) (by kernel_rfl) (by kernel_rfl) (by kernel_rfl) (by kernel_rfl) (fun _ _ => Yl.move rfl) ?_
  refine GW.take (v := .pointer (some ⟨g, 0, none⟩)) (i := 9) (l' := #[true, true, true, true, true, true, true, false, true, true, false, false, false, false, false, false, false, false, false]) (rs := [[]]) rfl (by kernel_rfl) rfl (NoP.then NoP.base) (by kernel_rfl) (by kernel_rfl) (by kernel_rfl) (by kernel_rfl) (fun _ _ => Yl.kern rfl rfl (fun _ => by kernel_rfl)) ?_
  refine GW.take (v := .pointer (some ⟨g, 0, none⟩)) (i := 10) (l' := #[true, true, true, true, true, true, true, false, true, true, true, false, false, false, false, false, false, false, false]) (rs := [[]]) rfl (by kernel_rfl) rfl (NoP.then NoP.base) (by kernel_rfl) (by kernel_rfl) (by kernel_rfl) (by kernel_rfl) (fun _ _ => Yl.kern rfl rfl (fun _ => by kernel_rfl)) ?_
  refine GW.take (v := .slice A1 (List.length ks) c2) (i := 11) (l' := #[true, true, true, true, true, true, true, false, true, true, true, true, false, false, false, false, false, false, false]) (rs := [[]]) rfl (by kernel_rfl) rfl (NoP.then NoP.base) (by kernel_rfl) (by kernel_rfl) (by kernel_rfl) (by kernel_rfl) (fun _ ⟨_, H9⟩ => Yl.load rfl (Lds.one Try.isAgg27 (Cls.of (H9.cls (i := 2) rfl) rfl))) ?_
  refine GW.take (v := .int .i64 ((m : Nat) : Int)) (i := 12) (l' := #[true, true, true, true, true, true, true, false, true, true, true, true, true, false, false, false, false, false, false]) (rs := [[]]) rfl (by kernel_rfl) rfl (NoP.then NoP.base) (by kernel_rfl) (by kernel_rfl) (by kernel_rfl) (by kernel_rfl) (fun _ _ => Yl.move rfl) ?_
  refine GW.take (v := .int .i64 ((m + 1 : Nat) : Int)) (i := 13) (l' := #[true, true, true, true, true, true, true, false, true, true, true, true, true, true, false, false, false, false, false]) (rs := [[]]) rfl (by kernel_rfl) rfl (NoP.then NoP.base) (by kernel_rfl) (by kernel_rfl) (by kernel_rfl) (by kernel_rfl) (fun _ _ => Yl.int (e := IntKind.i64.wrap (((m : Nat) : Int) + 1)) (Yl.kern rfl rfl (fun _ => by kernel_rfl)) (by rw [IntWalk.i64_in _ (by omega)]; omega)) ?_
  refine GW.take (v := .slice (cutA A1 (m + 1) 3 c2) ((List.length ks) - (m + 1)) (c2 - (m + 1))) (i := 14) (l' := #[true, true, true, true, true, true, true, false, true, true, true, true, true, true, true, false, false, false, false]) (rs := [[]]) rfl (by kernel_rfl) rfl (NoP.then NoP.base) (by kernel_rfl) (by kernel_rfl) (by kernel_rfl) (by kernel_rfl) (fun _ _ => Yl.cutFrom (El27) rfl rfl (by omega)) ?_
  have H17 : Own w D w14 [row none 0 0 ([]) 41 3, blk g9 [.int .i64 k.1, .int .i64 k.2.1, .string ⟨List.toArray k.2.2⟩] 41, blk g4 [.int .i64 0, .int .i64 0, .string ⟨List.toArray ([])⟩] 41, blk g [.slice A1 (List.length ks) c2] 29, row A1 (List.length ks) c2 (List.flatMap kC ks) 41 3] := H15.free ⟨by simp, .inl ⟨rfl, rfl, rfl⟩⟩
  refine GW.do (i := 7) (l' := #[true, true, true, true, true, true, true, true, true, true, true, true, true, true, true, false, false, false, false]) rfl rfl (by kernel_rfl) (by kernel_rfl) (Do.append (k := 0) (m := m) (El27) H17 rfl rfl (src_of Try.underlying27 (Rds.toE (hi := m) kC_len (H17.rds (i := 4) rfl) (by omega)) (flat_one kC_one (List.take m ks))) (by unfold maxLen; omega) (by omega) (s := m) (by omega) rfl ?_)
  intro A18 c19 w20 H21
  replace H21 : Own w D w20 [row A18 m c19 (List.flatMap kC (List.take m ks)) 41 3, blk g9 [.int .i64 k.1, .int .i64 k.2.1, .string ⟨List.toArray k.2.2⟩] 41, blk g4 [.int .i64 0, .int .i64 0, .string ⟨List.toArray ([])⟩] 41, blk g [.slice A1 (List.length ks) c2] 29, row A1 (List.length ks) c2 (List.flatMap kC ks) 41 3] := H21
  have H22 : Own w D w20 [blk g9 [.int .i64 k.1, .int .i64 k.2.1, .string ⟨List.toArray k.2.2⟩] 41, blk g4 [.int .i64 0, .int .i64 0, .string ⟨List.toArray ([])⟩] 41, blk g [.slice A1 (List.length ks) c2] 29, row A1 (List.length ks) c2 (List.flatMap kC ks) 41 3, row A18 m c19 (List.flatMap kC (List.take m ks)) 41 3] := H21.pick [1, 2, 3, 4, 0] (by decide) rfl
  refine ⟨.inr ⟨_, H22⟩, ?_⟩
  show GW _ _ _ _ 4 #[true, true, true, true, true, true, true, true, true, true, true, true, true, true, true, false, false, false, false] _ _ _
  have H23 : Own w D w20 [row A18 m c19 (List.flatMap kC (List.take m ks)) 41 3, blk g9 [.int .i64 k.1, .int .i64 k.2.1, .string ⟨List.toArray k.2.2⟩] 41, blk g4 [.int .i64 0, .int .i64 0, .string ⟨List.toArray ([])⟩] 41, blk g [.slice A1 (List.length ks) c2] 29, row A1 (List.length ks) c2 (List.flatMap kC ks) 41 3] := H22.pick [4, 0, 1, 2, 3] (by decide) rfl
  refine GW.do (i := 15) (l' := #[true, true, true, true, true, true, true, true, true, true, true, true, true, true, true, true, false, false, false]) rfl rfl (by kernel_rfl) (by kernel_rfl) (Do.append (k := m) (m := (List.length ks) - (m + 1)) (El27) H23 rfl rfl (src_of Try.underlying27 (Rds.fromE (lo := m + 1) kC_len (H23.rds (i := 4) rfl) (by omega) (by omega) (by decide)) (flat_one kC_one (List.drop (m + 1) ks))) (by unfold maxLen; omega) (by omega) (s := m + ((List.length ks) - (m + 1))) (by omega) (List.flatMap_append).symm ?_)
  intro A24 c25 w26 H27
  replace H27 : Own w D w26 [row A24 (m + ((List.length ks) - (m + 1))) c25 (List.flatMap kC ((List.take m ks) ++ (List.drop (m + 1) ks))) 41 3, blk g9 [.int .i64 k.1, .int .i64 k.2.1, .string ⟨List.toArray k.2.2⟩] 41, blk g4 [.int .i64 0, .int .i64 0, .string ⟨List.toArray ([])⟩] 41, blk g [.slice A1 (List.length ks) c2] 29, row A1 (List.length ks) c2 (List.flatMap kC ks) 41 3] := H27
  have H28 : Own w D w26 [blk g9 [.int .i64 k.1, .int .i64 k.2.1, .string ⟨List.toArray k.2.2⟩] 41, blk g4 [.int .i64 0, .int .i64 0, .string ⟨List.toArray ([])⟩] 41, blk g [.slice A1 (List.length ks) c2] 29, row A1 (List.length ks) c2 (List.flatMap kC ks) 41 3, row A24 (m + ((List.length ks) - (m + 1))) c25 (List.flatMap kC ((List.take m ks) ++ (List.drop (m + 1) ks))) 41 3] := H27.pick [1, 2, 3, 4, 0] (by decide) rfl
  refine ⟨.inr ⟨_, H28⟩, ?_⟩
  show GW _ _ _ _ 3 #[true, true, true, true, true, true, true, true, true, true, true, true, true, true, true, true, false, false, false] _ _ _
  refine GW.take (v := .pointer (some ⟨g, 0, none⟩)) (i := 16) (l' := #[true, true, true, true, true, true, true, true, true, true, true, true, true, true, true, true, true, false, false]) (rs := [[17]]) rfl (by kernel_rfl) rfl (NoP.then NoP.base) (by kernel_rfl) (by kernel_rfl) (by kernel_rfl) (by kernel_rfl) (fun _ _ => Yl.kern rfl rfl (fun _ => by kernel_rfl)) ?_
  refine GW.take (v := .pointer (some ⟨g, 0, none⟩)) (i := 17) (l' := #[true, true, true, true, true, true, true, true, true, true, true, true, true, true, true, true, true, true, false]) (rs := [[]]) rfl (by kernel_rfl) rfl (NoP.then NoP.base) (by kernel_rfl) (by kernel_rfl) (by kernel_rfl) (by kernel_rfl) (fun _ _ => Yl.kern rfl rfl (fun _ => by kernel_rfl)) ?_
  have H29 : Own w D w26 [blk g [.slice A1 (List.length ks) c2] 29, blk g9 [.int .i64 k.1, .int .i64 k.2.1, .string ⟨List.toArray k.2.2⟩] 41, blk g4 [.int .i64 0, .int .i64 0, .string ⟨List.toArray ([])⟩] 41, row A1 (List.length ks) c2 (List.flatMap kC ks) 41 3, row A24 (m + ((List.length ks) - (m + 1))) c25 (List.flatMap kC ((List.take m ks) ++ (List.drop (m + 1) ks))) 41 3] := H28.pick [2, 0, 1, 3, 4] (by decide) rfl
  refine GW.do0 (i := 18) (l' := #[true, true, true, true, true, true, true, true, true, true, true, true, true, true, true, true, true, true, true]) rfl (by kernel_rfl) (by kernel_rfl) (Do.store (vs := [.slice A24 (m + ((List.length ks) - (m + 1))) c25]) (o := 0) H29 rfl rfl Try.sizeOf27 rfl rfl rfl rfl ?_)
  intro w30 H31
  replace H31 : Own w D w30 [blk g [.slice A24 (m + ((List.length ks) - (m + 1))) c25] 29, blk g9 [.int .i64 k.1, .int .i64 k.2.1, .string ⟨List.toArray k.2.2⟩] 41, blk g4 [.int .i64 0, .int .i64 0, .string ⟨List.toArray ([])⟩] 41, row A1 (List.length ks) c2 (List.flatMap kC ks) 41 3, row A24 (m + ((List.length ks) - (m + 1))) c25 (List.flatMap kC ((List.take m ks) ++ (List.drop (m + 1) ks))) 41 3] := H31
  refine ⟨.inl rfl, ?_⟩
  show GW _ _ _ _ 0 #[true, true, true, true, true, true, true, true, true, true, true, true, true, true, true, true, true, true, true] _ _ _
  refine GW.done (by kernel_rfl) ?_
  refine Fin.then ?_
  refine Wp.seq ?_
  refine Wp.region ?_
  refine WL.val (v := .agg #[.int .i64 k.1, .int .i64 k.2.1, .string ⟨List.toArray k.2.2⟩]) rfl (Yl.load rfl (Lds.agg (cs := [.int .i64 k.1, .int .i64 k.2.1, .string ⟨List.toArray k.2.2⟩]) Try.isAgg41 Try.sizeOf41 ((H31.cls (i := 1) rfl).lit (k := 0) (m := 3) rfl))) ?_
  have H32 : Own w D w30 [blk g4 [.int .i64 0, .int .i64 0, .string ⟨List.toArray ([])⟩] 41, blk g [.slice A24 (m + ((List.length ks) - (m + 1))) c25] 29, blk g9 [.int .i64 k.1, .int .i64 k.2.1, .string ⟨List.toArray k.2.2⟩] 41, row A1 (List.length ks) c2 (List.flatMap kC ks) 41 3, row A24 (m + ((List.length ks) - (m + 1))) c25 (List.flatMap kC ((List.take m ks) ++ (List.drop (m + 1) ks))) 41 3] := H31.pick [2, 0, 1, 3, 4] (by decide) rfl
  refine WL.do0 (Do.store (vs := [.int .i64 k.1, .int .i64 k.2.1, .string ⟨List.toArray k.2.2⟩]) (o := 0) H32 rfl rfl Try.sizeOf41 rfl rfl rfl rfl ?_)
  intro w33 H34
  replace H34 : Own w D w33 [blk g4 [.int .i64 k.1, .int .i64 k.2.1, .string ⟨List.toArray k.2.2⟩] 41, blk g [.slice A24 (m + ((List.length ks) - (m + 1))) c25] 29, blk g9 [.int .i64 k.1, .int .i64 k.2.1, .string ⟨List.toArray k.2.2⟩] 41, row A1 (List.length ks) c2 (List.flatMap kC ks) 41 3, row A24 (m + ((List.length ks) - (m + 1))) c25 (List.flatMap kC ((List.take m ks) ++ (List.drop (m + 1) ks))) 41 3] := H34
  refine WL.val (v := .int .i64 0) rfl (Yl.assign rfl) ?_
  refine WL.nil ?_
  refine Fin.then ?_
  refine Wp.ret ?_
  refine Fin.res (resN (vs := [.agg #[.int .i64 k.1, .int .i64 k.2.1, .string ⟨List.toArray k.2.2⟩], .int .i64 0]) rfl (ResV.cell rfl (Lds.agg (cs := [.int .i64 k.1, .int .i64 k.2.1, .string ⟨List.toArray k.2.2⟩]) Try.isAgg41 Try.sizeOf41 ((H34.cls (i := 0) rfl).lit (k := 0) (m := 3) rfl)) (ResV.tmp rfl ResV.nil)) (Nat.le_of_ble_eq_true rfl)) ?_
  rw [take_drop_erase] at H34
  have H35 : Own w D w33 [blk g [.slice A24 (m + ((List.length ks) - (m + 1))) c25] 29, row A24 (m + ((List.length ks) - (m + 1))) c25 (List.flatMap kC (List.eraseIdx ks m)) 41 3] := H34.pick [1, 4] (by decide) rfl
  exact ⟨rfl, (rnet.fold2 (n := m + ((List.length ks) - (m + 1))) (ks := List.eraseIdx ks m) (by rw [List.length_eraseIdx, if_pos hm]; omega) H35)⟩

set_option maxRecDepth 100000 in
theorem RTake_none (g : Nat) (ks : List (Int × Int × List UInt8)) (i : Int) (w : World) (D : Nat → Prop) (H : Own w D w [rnet g ks]) (hi : ¬ (0 ≤ i ∧ i < ((List.length ks : Nat) : Int))) :
    Calls Try.prog 10 #[.pointer (some ⟨g, 0, none⟩), .int .i64 i] w (Ret fun v w' => v = .tuple #[.agg (kC (0, 0, [])).toArray, .int .i64 5] ∧ Own w D w' [rnet g ks]) := by
  refine Calls.body (args := [.pointer (some ⟨g, 0, none⟩), .int .i64 i]) Try.func10 rfl rfl rfl ?_
  show Wp _ _ _ [(0, .pointer (some ⟨g, 0, none⟩)), (1, .int .i64 i)] _ _
  obtain ⟨A1, c2, H3⟩ := rnet.open H
  have H3le := (H3.rowLe (i := 1) rfl).1
  have H3le2 := (H3.rowLe (i := 1) rfl).2.1
  unfold maxLen at H3le2
  refine Wp.seq ?_
  refine Wp.region ?_
  refine WL.do rfl (Do.newP (cs := [.int .i64 0, .int .i64 0, .string ⟨List.toArray ([])⟩]) (t := 41) H3 rfl rfl (fun _ => by kernel_rfl) ?_)
  intro g4 w5 H6
  replace H6 : Own w D w5 [blk g4 [.int .i64 0, .int .i64 0, .string ⟨List.toArray ([])⟩] 41, blk g [.slice A1 (List.length ks) c2] 29, row A1 (List.length ks) c2 (List.flatMap kC ks) 41 3] := H6
  refine WL.val (v := .int .i64 0) rfl (Yl.assign rfl) ?_
  refine WL.nil ?_
  refine Fin.then ?_
  refine Wp.seq ?_
  refine Wp.seq ?_
  refine Wp.region ?_
  refine WL.val (v := .int .i64 i) rfl (Yl.move rfl) ?_
  refine WL.val (v := .bool (decide (i < 0))) rfl (Yl.kern rfl rfl (fun _ => by kernel_rfl)) ?_
  refine WL.val (v := .bool (decide (i < 0))) rfl (Yl.move rfl) ?_
  by_cases h7 : i < 0
  · skip
    refine WL.skipG rfl rfl (decide_eq_true h7) rfl ?_
    refine WL.skipG rfl rfl (decide_eq_true h7) rfl ?_
    refine WL.skipG rfl rfl (decide_eq_true h7) rfl ?_
    refine WL.skipG rfl rfl (decide_eq_true h7) rfl ?_
    refine WL.skipG rfl rfl (decide_eq_true h7) rfl ?_
    refine WL.skipG rfl rfl (decide_eq_true h7) rfl ?_
    refine WL.skipG rfl rfl (decide_eq_true h7) rfl ?_
    refine WL.val (v := .bool true) rfl (Yl.pickT rfl (decide_eq_true h7) rfl) ?_
    refine WL.nil ?_
    refine Fin.then ?_
    refine Wp.cond1 rfl rfl ?_
    refine Wp.seq ?_
    refine Wp.region ?_
    refine WL.val (v := .agg #[.int .i64 0, .int .i64 0, .string ⟨List.toArray ([])⟩]) rfl (Yl.kern rfl rfl (fun _ => by kernel_rfl)) ?_
    refine WL.do0 (Do.store (vs := [.int .i64 0, .int .i64 0, .string ⟨List.toArray ([])⟩]) (o := 0) H6 rfl rfl Try.sizeOf41 rfl rfl rfl rfl ?_)
    intro w8 H9
    replace H9 : Own w D w8 [blk g4 [.int .i64 0, .int .i64 0, .string ⟨List.toArray ([])⟩] 41, blk g [.slice A1 (List.length ks) c2] 29, row A1 (List.length ks) c2 (List.flatMap kC ks) 41 3] := H9
    refine WL.val (v := .int .i64 5) rfl (Yl.assign rfl) ?_
    refine WL.nil ?_
    refine Fin.then ?_
    refine Wp.ret ?_
    refine Fin.thenR ?_
    refine Fin.res (resN (vs := [.agg #[.int .i64 0, .int .i64 0, .string ⟨List.toArray ([])⟩], .int .i64 5]) rfl (ResV.cell rfl (Lds.agg (cs := [.int .i64 0, .int .i64 0, .string ⟨List.toArray ([])⟩]) Try.isAgg41 Try.sizeOf41 ((H9.cls (i := 0) rfl).lit (k := 0) (m := 3) rfl)) (ResV.tmp rfl ResV.nil)) (Nat.le_of_ble_eq_true rfl)) ?_
    have H10 : Own w D w8 [blk g [.slice A1 (List.length ks) c2] 29, row A1 (List.length ks) c2 (List.flatMap kC ks) 41 3] := H9.pick [1, 2] (by decide) rfl
    exact ⟨rfl, (rnet.fold2 (n := List.length ks) rfl H10)⟩
  · skip
    refine WL.valG (v := .int .i64 i) rfl rfl (decide_eq_false h7) rfl (Yl.move rfl) ?_
    refine WL.valG (v := .pointer (some ⟨g, 0, none⟩)) rfl rfl (decide_eq_false h7) rfl (Yl.move rfl) ?_
    refine WL.valG (v := .pointer (some ⟨g, 0, none⟩)) rfl rfl (decide_eq_false h7) rfl (Yl.kern rfl rfl (fun _ => by kernel_rfl)) ?_
    refine WL.valG (v := .pointer (some ⟨g, 0, none⟩)) rfl rfl (decide_eq_false h7) rfl (Yl.kern rfl rfl (fun _ => by kernel_rfl)) ?_
    refine WL.valG (v := .slice A1 (List.length ks) c2) rfl rfl (decide_eq_false h7) rfl (Yl.load rfl (Lds.one Try.isAgg27 (Cls.of (H6.cls (i := 1) rfl) rfl))) ?_
    refine WL.valG (v := .int .i64 ((List.length ks : Nat) : Int)) rfl rfl (decide_eq_false h7) rfl (Yl.kern rfl rfl (fun _ => by kernel_rfl)) ?_
    refine WL.valG (v := .bool (decide (i ≥ ((List.length ks : Nat) : Int)))) rfl rfl (decide_eq_false h7) rfl (Yl.kern rfl rfl (fun _ => by kernel_rfl)) ?_
    refine WL.val (v := .bool (decide (i ≥ ((List.length ks : Nat) : Int)))) rfl (Yl.pickF rfl (decide_eq_false h7) rfl) ?_
    refine WL.nil ?_
    refine Fin.then ?_
    have hb11 : (decide (i ≥ ((List.length ks : Nat) : Int))) = true := (decide_eq_true (by omega))
    refine Wp.cond1 rfl hb11 ?_
    refine Wp.seq ?_
    refine Wp.region ?_
    refine WL.val (v := .agg #[.int .i64 0, .int .i64 0, .string ⟨List.toArray ([])⟩]) rfl (Yl.kern rfl rfl (fun _ => by kernel_rfl)) ?_
    refine WL.do0 (Do.store (vs := [.int .i64 0, .int .i64 0, .string ⟨List.toArray ([])⟩]) (o := 0) H6 rfl rfl Try.sizeOf41 rfl rfl rfl rfl ?_)
    intro w12 H13
    replace H13 : Own w D w12 [blk g4 [.int .i64 0, .int .i64 0, .string ⟨List.toArray ([])⟩] 41, blk g [.slice A1 (List.length ks) c2] 29, row A1 (List.length ks) c2 (List.flatMap kC ks) 41 3] := H13
    refine WL.val (v := .int .i64 5) rfl (Yl.assign rfl) ?_
    refine WL.nil ?_
    refine Fin.then ?_
    refine Wp.ret ?_
    refine Fin.thenR ?_
    refine Fin.res (resN (vs := [.agg #[.int .i64 0, .int .i64 0, .string ⟨List.toArray ([])⟩], .int .i64 5]) rfl (ResV.cell rfl (Lds.agg (cs := [.int .i64 0, .int .i64 0, .string ⟨List.toArray ([])⟩]) Try.isAgg41 Try.sizeOf41 ((H13.cls (i := 0) rfl).lit (k := 0) (m := 3) rfl)) (ResV.tmp rfl ResV.nil)) (Nat.le_of_ble_eq_true rfl)) ?_
    have H14 : Own w D w12 [blk g [.slice A1 (List.length ks) c2] 29, row A1 (List.length ks) c2 (List.flatMap kC ks) 41 3] := H13.pick [1, 2] (by decide) rfl
    exact ⟨rfl, (rnet.fold2 (n := List.length ks) rfl H14)⟩

set_option maxRecDepth 100000 in
theorem RDouble_none (g : Nat) (ks : List (Int × Int × List UInt8)) (i : Int) (w : World) (D : Nat → Prop) (H : Own w D w [rnet g ks]) (hi : ¬ (0 ≤ i ∧ i < ((List.length ks : Nat) : Int))) :
    Calls Try.prog 13 #[.pointer (some ⟨g, 0, none⟩), .int .i64 i] w (Ret fun v w' => v = .int .i64 5 ∧ Own w D w' [rnet g ks]) := by
  refine Calls.body (args := [.pointer (some ⟨g, 0, none⟩), .int .i64 i]) Try.func13 rfl rfl rfl ?_
  show Wp _ _ _ [(0, .pointer (some ⟨g, 0, none⟩)), (1, .int .i64 i)] _ _
  obtain ⟨A1, c2, H3⟩ := rnet.open H
  have H3le := (H3.rowLe (i := 1) rfl).1
  have H3le2 := (H3.rowLe (i := 1) rfl).2.1
  unfold maxLen at H3le2
  refine Wp.seq ?_
  refine Wp.region ?_
  refine WL.val (v := .int .i64 0) rfl (Yl.assign rfl) ?_
  refine WL.nil ?_
  refine Fin.then ?_
  refine Wp.seq ?_
  refine Wp.seq ?_
  refine Wp.region ?_
  refine WL.val (v := .int .i64 i) rfl (Yl.move rfl) ?_
  refine WL.val (v := .bool (decide (i < 0))) rfl (Yl.kern rfl rfl (fun _ => by kernel_rfl)) ?_
  refine WL.val (v := .bool (decide (i < 0))) rfl (Yl.move rfl) ?_
  by_cases h4 : i < 0
  · skip
    refine WL.skipG rfl rfl (decide_eq_true h4) rfl ?_
    refine WL.skipG rfl rfl (decide_eq_true h4) rfl ?_
    refine WL.skipG rfl rfl (decide_eq_true h4) rfl ?_
    refine WL.skipG rfl rfl (decide_eq_true h4) rfl ?_
    refine WL.skipG rfl rfl (decide_eq_true h4) rfl ?_
    refine WL.skipG rfl rfl (decide_eq_true h4) rfl ?_
    refine WL.skipG rfl rfl (decide_eq_true h4) rfl ?_
    refine WL.val (v := .bool true) rfl (Yl.pickT rfl (decide_eq_true h4) rfl) ?_
    refine WL.nil ?_
    refine Fin.then ?_
    refine Wp.cond1 rfl rfl ?_
    refine Wp.seq ?_
    refine Wp.region ?_
    refine WL.val (v := .int .i64 5) rfl (Yl.assign rfl) ?_
    refine WL.nil ?_
    refine Fin.then ?_
    refine Wp.ret ?_
    refine Fin.thenR ?_
    refine Fin.res (res1 rfl rfl) ?_
    have H5 : Own w D w [blk g [.slice A1 (List.length ks) c2] 29, row A1 (List.length ks) c2 (List.flatMap kC ks) 41 3] := H3.pick [0, 1] (by decide) rfl
    exact ⟨rfl, (rnet.fold2 (n := List.length ks) rfl H5)⟩
  · skip
    refine WL.valG (v := .int .i64 i) rfl rfl (decide_eq_false h4) rfl (Yl.move rfl) ?_
    refine WL.valG (v := .pointer (some ⟨g, 0, none⟩)) rfl rfl (decide_eq_false h4) rfl (Yl.move rfl) ?_
    refine WL.valG (v := .pointer (some ⟨g, 0, none⟩)) rfl rfl (decide_eq_false h4) rfl (Yl.kern rfl rfl (fun _ => by kernel_rfl)) ?_
    refine WL.valG (v := .pointer (some ⟨g, 0, none⟩)) rfl rfl (decide_eq_false h4) rfl (Yl.kern rfl rfl (fun _ => by kernel_rfl)) ?_
    refine WL.valG (v := .slice A1 (List.length ks) c2) rfl rfl (decide_eq_false h4) rfl (Yl.load rfl (Lds.one Try.isAgg27 (Cls.of (H3.cls (i := 0) rfl) rfl))) ?_
    refine WL.valG (v := .int .i64 ((List.length ks : Nat) : Int)) rfl rfl (decide_eq_false h4) rfl (Yl.kern rfl rfl (fun _ => by kernel_rfl)) ?_
    refine WL.valG (v := .bool (decide (i ≥ ((List.length ks : Nat) : Int)))) rfl rfl (decide_eq_false h4) rfl (Yl.kern rfl rfl (fun _ => by kernel_rfl)) ?_
    refine WL.val (v := .bool (decide (i ≥ ((List.length ks : Nat) : Int)))) rfl (Yl.pickF rfl (decide_eq_false h4) rfl) ?_
    refine WL.nil ?_
    refine Fin.then ?_
    have hb6 : (decide (i ≥ ((List.length ks : Nat) : Int))) = true := (decide_eq_true (by omega))
    refine Wp.cond1 rfl hb6 ?_
    refine Wp.seq ?_
    refine Wp.region ?_
    refine WL.val (v := .int .i64 5) rfl (Yl.assign rfl) ?_
    refine WL.nil ?_
    refine Fin.then ?_
    refine Wp.ret ?_
    refine Fin.thenR ?_
    refine Fin.res (res1 rfl rfl) ?_
    have H7 : Own w D w [blk g [.slice A1 (List.length ks) c2] 29, row A1 (List.length ks) c2 (List.flatMap kC ks) 41 3] := H3.pick [0, 1] (by decide) rfl
    exact ⟨rfl, (rnet.fold2 (n := List.length ks) rfl H7)⟩

set_option maxRecDepth 100000 in
theorem RSpoil_none (g : Nat) (ks : List (Int × Int × List UInt8)) (i : Int) (bs : List UInt8) (w : World) (D : Nat → Prop) (H : Own w D w [rnet g ks]) (hi : ¬ (0 ≤ i ∧ i < ((List.length ks : Nat) : Int))) :
    Calls Try.prog 15 #[.pointer (some ⟨g, 0, none⟩), .int .i64 i, .string ⟨List.toArray bs⟩] w (Ret fun v w' => v = .int .i64 5 ∧ Own w D w' [rnet g ks]) := by
  refine Calls.body (args := [.pointer (some ⟨g, 0, none⟩), .int .i64 i, .string ⟨List.toArray bs⟩]) Try.func15 rfl rfl rfl ?_
  show Wp _ _ _ [(0, .pointer (some ⟨g, 0, none⟩)), (1, .int .i64 i), (2, .string ⟨List.toArray bs⟩)] _ _
  obtain ⟨A1, c2, H3⟩ := rnet.open H
  have H3le := (H3.rowLe (i := 1) rfl).1
  have H3le2 := (H3.rowLe (i := 1) rfl).2.1
  unfold maxLen at H3le2
  refine Wp.seq ?_
  refine Wp.region ?_
  refine WL.val (v := .int .i64 0) rfl (Yl.assign rfl) ?_
  refine WL.nil ?_
  refine Fin.then ?_
  refine Wp.seq ?_
  refine Wp.seq ?_
  refine Wp.region ?_
  refine WL.val (v := .int .i64 i) rfl (Yl.move rfl) ?_
  refine WL.val (v := .bool (decide (i < 0))) rfl (Yl.kern rfl rfl (fun _ => by kernel_rfl)) ?_
  refine WL.val (v := .bool (decide (i < 0))) rfl (Yl.move rfl) ?_
  by_cases h4 : i < 0
  · skip
    refine WL.skipG rfl rfl (decide_eq_true h4) rfl ?_
    refine WL.skipG rfl rfl (decide_eq_true h4) rfl ?_
    refine WL.skipG rfl rfl (decide_eq_true h4) rfl ?_
    refine WL.skipG rfl rfl (decide_eq_true h4) rfl ?_
    refine WL.skipG rfl rfl (decide_eq_true h4) rfl ?_
    refine WL.skipG rfl rfl (decide_eq_true h4) rfl ?_
    refine WL.skipG rfl rfl (decide_eq_true h4) rfl ?_
    refine WL.val (v := .bool true) rfl (Yl.pickT rfl (decide_eq_true h4) rfl) ?_
    refine WL.nil ?_
    refine Fin.then ?_
    refine Wp.cond1 rfl rfl ?_
    refine Wp.seq ?_
    refine Wp.region ?_
    refine WL.val (v := .int .i64 5) rfl (Yl.assign rfl) ?_
    refine WL.nil ?_
    refine Fin.then ?_
    refine Wp.ret ?_
    refine Fin.thenR ?_
    refine Fin.res (res1 rfl rfl) ?_
    have H5 : Own w D w [blk g [.slice A1 (List.length ks) c2] 29, row A1 (List.length ks) c2 (List.flatMap kC ks) 41 3] := H3.pick [0, 1] (by decide) rfl
    exact ⟨rfl, (rnet.fold2 (n := List.length ks) rfl H5)⟩
  · skip
    refine WL.valG (v := .int .i64 i) rfl rfl (decide_eq_false h4) rfl (Yl.move rfl) ?_
    refine WL.valG (v := .pointer (some ⟨g, 0, none⟩)) rfl rfl (decide_eq_false h4) rfl (Yl.move rfl) ?_
    refine WL.valG (v := .pointer (some ⟨g, 0, none⟩)) rfl rfl (decide_eq_false h4) rfl (Yl.kern rfl rfl (fun _ => by kernel_rfl)) ?_
    refine WL.valG (v := .pointer (some ⟨g, 0, none⟩)) rfl rfl (decide_eq_false h4) rfl (Yl.kern rfl rfl (fun _ => by kernel_rfl)) ?_
    refine WL.valG (v := .slice A1 (List.length ks) c2) rfl rfl (decide_eq_false h4) rfl (Yl.load rfl (Lds.one Try.isAgg27 (Cls.of (H3.cls (i := 0) rfl) rfl))) ?_
    refine WL.valG (v := .int .i64 ((List.length ks : Nat) : Int)) rfl rfl (decide_eq_false h4) rfl (Yl.kern rfl rfl (fun _ => by kernel_rfl)) ?_
    refine WL.valG (v := .bool (decide (i ≥ ((List.length ks : Nat) : Int)))) rfl rfl (decide_eq_false h4) rfl (Yl.kern rfl rfl (fun _ => by kernel_rfl)) ?_
    refine WL.val (v := .bool (decide (i ≥ ((List.length ks : Nat) : Int)))) rfl (Yl.pickF rfl (decide_eq_false h4) rfl) ?_
    refine WL.nil ?_
    refine Fin.then ?_
    have hb6 : (decide (i ≥ ((List.length ks : Nat) : Int))) = true := (decide_eq_true (by omega))
    refine Wp.cond1 rfl hb6 ?_
    refine Wp.seq ?_
    refine Wp.region ?_
    refine WL.val (v := .int .i64 5) rfl (Yl.assign rfl) ?_
    refine WL.nil ?_
    refine Fin.then ?_
    refine Wp.ret ?_
    refine Fin.thenR ?_
    refine Fin.res (res1 rfl rfl) ?_
    have H7 : Own w D w [blk g [.slice A1 (List.length ks) c2] 29, row A1 (List.length ks) c2 (List.flatMap kC ks) 41 3] := H3.pick [0, 1] (by decide) rfl
    exact ⟨rfl, (rnet.fold2 (n := List.length ks) rfl H7)⟩

set_option maxRecDepth 100000 in
theorem RSpoil_ok (g m : Nat) (ks : List (Int × Int × List UInt8)) (k : Int × Int × List UInt8) (bs : List UInt8) (w : World) (D : Nat → Prop) (H : Own w D w [rnet g ks]) (hk : ks[m]? = some k) (hle : List.length ks ≤ 1000000) :
    Calls Try.prog 15 #[.pointer (some ⟨g, 0, none⟩), .int .i64 ((m : Nat) : Int), .string ⟨List.toArray bs⟩] w (Ret fun v w' => (4103 < List.length bs ∧ v = .int .i64 2 ∧ Own w D w' [rnet g ks]) ∨ (List.length bs ≤ 4103 ∧ v = .int .i64 0 ∧ Own w D w' [rnet g (List.set ks m (k.1, k.2.1, bs))])) := by
  have hm : m < List.length ks := (List.getElem?_eq_some_iff.1 hk).1
  refine Calls.body (args := [.pointer (some ⟨g, 0, none⟩), .int .i64 ((m : Nat) : Int), .string ⟨List.toArray bs⟩]) Try.func15 rfl rfl rfl ?_
  show Wp _ _ _ [(0, .pointer (some ⟨g, 0, none⟩)), (1, .int .i64 ((m : Nat) : Int)), (2, .string ⟨List.toArray bs⟩)] _ _
  obtain ⟨A1, c2, H3⟩ := rnet.open H
  have H3le := (H3.rowLe (i := 1) rfl).1
  have H3le2 := (H3.rowLe (i := 1) rfl).2.1
  unfold maxLen at H3le2
  refine Wp.seq ?_
  refine Wp.region ?_
  refine WL.val (v := .int .i64 0) rfl (Yl.assign rfl) ?_
  refine WL.nil ?_
  refine Fin.then ?_
  refine Wp.seq ?_
  refine Wp.seq ?_
  refine Wp.region ?_
  refine WL.val (v := .int .i64 ((m : Nat) : Int)) rfl (Yl.move rfl) ?_
  refine WL.val (v := .bool (decide (((m : Nat) : Int) < 0))) rfl (Yl.kern rfl rfl (fun _ => by kernel_rfl)) ?_
  refine WL.val (v := .bool (decide (((m : Nat) : Int) < 0))) rfl (Yl.move rfl) ?_
  have hb4 : (decide (((m : Nat) : Int) < 0)) = false := (decide_eq_false (by omega))
  refine WL.valG (v := .int .i64 ((m : Nat) : Int)) rfl rfl hb4 rfl (Yl.move rfl) ?_
  refine WL.valG (v := .pointer (some ⟨g, 0, none⟩)) rfl rfl hb4 rfl (Yl.move rfl) ?_
  refine WL.valG (v := .pointer (some ⟨g, 0, none⟩)) rfl rfl hb4 rfl (Yl.kern rfl rfl (fun _ => by kernel_rfl)) ?_
  refine WL.valG (v := .pointer (some ⟨g, 0, none⟩)) rfl rfl hb4 rfl (Yl.kern rfl rfl (fun _ => by kernel_rfl)) ?_
  refine WL.valG (v := .slice A1 (List.length ks) c2) rfl rfl hb4 rfl (Yl.load rfl (Lds.one Try.isAgg27 (Cls.of (H3.cls (i := 0) rfl) rfl))) ?_
  refine WL.valG (v := .int .i64 ((List.length ks : Nat) : Int)) rfl rfl hb4 rfl (Yl.kern rfl rfl (fun _ => by kernel_rfl)) ?_
  refine WL.valG (v := .bool (decide (((m : Nat) : Int) ≥ ((List.length ks : Nat) : Int)))) rfl rfl hb4 rfl (Yl.kern rfl rfl (fun _ => by kernel_rfl)) ?_
  refine WL.val (v := .bool (decide (((m : Nat) : Int) ≥ ((List.length ks : Nat) : Int)))) rfl (Yl.pickF rfl hb4 rfl) ?_
  refine WL.nil ?_
  refine Fin.then ?_
  have hb5 : (decide (((m : Nat) : Int) ≥ ((List.length ks : Nat) : Int))) = false := (decide_eq_false (by omega))
  refine Wp.cond0 rfl hb5 ?_
  refine Wp.skip ?_
  refine Fin.then ?_
  refine Wp.seq ?_
  refine Wp.seq ?_
  refine Wp.region ?_
  refine WL.val (v := .string ⟨List.toArray bs⟩) rfl (Yl.move rfl) ?_
  refine WL.val (v := .int .i64 ((List.length bs : Nat) : Int)) rfl (Yl.kern rfl rfl (fun _ => by kernel_rfl)) ?_
  refine WL.val (v := .bool (decide (((List.length bs : Nat) : Int) > 4103))) rfl (Yl.kern rfl rfl (fun _ => by kernel_rfl)) ?_
  refine WL.nil ?_
  refine Fin.then ?_
  by_cases h6 : ((List.length bs : Nat) : Int) > 4103
  · skip
    refine Wp.cond1 rfl (decide_eq_true h6) ?_
    refine Wp.seq ?_
    refine Wp.region ?_
    refine WL.val (v := .int .i64 2) rfl (Yl.assign rfl) ?_
    refine WL.nil ?_
    refine Fin.then ?_
    refine Wp.ret ?_
    refine Fin.thenR ?_
    refine Fin.res (res1 rfl rfl) ?_
    have H7 : Own w D w [blk g [.slice A1 (List.length ks) c2] 29, row A1 (List.length ks) c2 (List.flatMap kC ks) 41 3] := H3.pick [0, 1] (by decide) rfl
    exact .inl ⟨by omega, rfl, (rnet.fold2 (n := List.length ks) rfl H7)⟩
  · skip
    refine Wp.cond0 rfl (decide_eq_false h6) ?_
    refine Wp.skip ?_
    refine Fin.then ?_
    refine Wp.seq ?_
    refine Wp.region ?_
    refine WL.val (v := .pointer (some ⟨g, 0, none⟩)) rfl (Yl.move rfl) ?_
    refine WL.val (v := .pointer (some ⟨g, 0, none⟩)) rfl (Yl.move rfl) ?_
    refine WL.val (v := .pointer (some ⟨g, 0, none⟩)) rfl (Yl.kern rfl rfl (fun _ => by kernel_rfl)) ?_
    refine WL.val (v := .pointer (some ⟨g, 0, none⟩)) rfl (Yl.kern rfl rfl (fun _ => by kernel_rfl)) ?_
    refine WL.val (v := .slice A1 (List.length ks) c2) rfl (Yl.load rfl (Lds.one Try.isAgg27 (Cls.of (H3.cls (i := 0) rfl) rfl))) ?_
    have H8 : Own w D w [row none 0 0 ([]) 41 3, blk g [.slice A1 (List.length ks) c2] 29, row A1 (List.length ks) c2 (List.flatMap kC ks) 41 3] := H3.free ⟨by simp, .inl ⟨rfl, rfl, rfl⟩⟩
    refine WL.do rfl (Do.append (k := 0) (m := List.length ks) (El27) H8 rfl rfl (src_of Try.underlying27 (H8.rds (i := 2) rfl) (flat_one kC_one ks)) (by unfold maxLen; omega) (by omega) (s := List.length ks) (by omega) rfl ?_)
    intro A9 c10 w11 H12
    replace H12 : Own w D w11 [row A9 (List.length ks) c10 (List.flatMap kC ks) 41 3, blk g [.slice A1 (List.length ks) c2] 29, row A1 (List.length ks) c2 (List.flatMap kC ks) 41 3] := H12
    refine WL.val (v := .pointer (some ⟨g, 0, none⟩)) rfl (Yl.kern rfl rfl (fun _ => by kernel_rfl)) ?_
    refine WL.val (v := .pointer (some ⟨g, 0, none⟩)) rfl (Yl.kern rfl rfl (fun _ => by kernel_rfl)) ?_
    have H13 : Own w D w11 [blk g [.slice A1 (List.length ks) c2] 29, row A9 (List.length ks) c10 (List.flatMap kC ks) 41 3, row A1 (List.length ks) c2 (List.flatMap kC ks) 41 3] := H12.pick [1, 0, 2] (by decide) rfl
    refine WL.do0 (Do.store (vs := [.slice A9 (List.length ks) c10]) (o := 0) H13 rfl rfl Try.sizeOf27 rfl rfl rfl rfl ?_)
    intro w14 H15
    replace H15 : Own w D w14 [blk g [.slice A9 (List.length ks) c10] 29, row A9 (List.length ks) c10 (List.flatMap kC ks) 41 3, row A1 (List.length ks) c2 (List.flatMap kC ks) 41 3] := H15
    refine WL.nil ?_
    refine Fin.then ?_
    refine Wp.seq ?_
    refine Wp.region ?_
    refine WL.val (v := .pointer (some ⟨g, 0, none⟩)) rfl (Yl.move rfl) ?_
    refine WL.val (v := .pointer (some ⟨g, 0, none⟩)) rfl (Yl.kern rfl rfl (fun _ => by kernel_rfl)) ?_
    refine WL.val (v := .pointer (some ⟨g, 0, none⟩)) rfl (Yl.kern rfl rfl (fun _ => by kernel_rfl)) ?_
    refine WL.val (v := .slice A9 (List.length ks) c10) rfl (Yl.load rfl (Lds.one Try.isAgg27 (Cls.of (H15.cls (i := 0) rfl) rfl))) ?_
    refine WL.val (v := .int .i64 ((m : Nat) : Int)) rfl (Yl.move rfl) ?_
    refine WL.val (v := .string ⟨List.toArray bs⟩) rfl (Yl.move rfl) ?_
    refine WL.val (v := .pointer (some ⟨ab A9, ao A9 + m * 3, none⟩)) rfl (Yl.indexAddr (El27) rfl rfl ((H15.rds (i := 1) rfl).addr (i := m) (by omega)) (by omega)) ?_
    refine WL.val (v := .pointer (some ⟨ab A9, ao A9 + m * 3 + 2, none⟩)) rfl (Yl.kern rfl rfl (fun _ => by kernel_rfl)) ?_
    have H16 : Own w D w14 [row A9 (List.length ks) c10 (List.flatMap kC ks) 41 3, blk g [.slice A9 (List.length ks) c10] 29, row A1 (List.length ks) c2 (List.flatMap kC ks) 41 3] := H15.pick [1, 0, 2] (by decide) rfl
    refine WL.do0 (Do.storeRow (vs := [.string ⟨List.toArray bs⟩]) (o := m * 3 + 2) (q := ao A9 + m * 3 + 2) H16 rfl (by omega) rfl Try.sizeOf9 rfl rfl (Nat.le_of_ble_eq_true rfl) (store_fits kC_len hk (Nat.le_of_ble_eq_true rfl)) (flat_set (y := (k.1, k.2.1, bs)) kC_len rfl (Nat.le_of_ble_eq_true rfl) hk) ?_)
    intro w17 H18
    replace H18 : Own w D w17 [row A9 (List.length ks) c10 (List.flatMap kC (List.set ks m (k.1, k.2.1, bs))) 41 3, blk g [.slice A9 (List.length ks) c10] 29, row A1 (List.length ks) c2 (List.flatMap kC ks) 41 3] := H18
    refine WL.nil ?_
    refine Fin.then ?_
    refine Wp.seq ?_
    refine Wp.region ?_
    refine WL.val (v := .int .i64 0) rfl (Yl.assign rfl) ?_
    refine WL.nil ?_
    refine Fin.then ?_
    refine Wp.ret ?_
    refine Fin.res (res1 rfl rfl) ?_
    have H19 : Own w D w17 [blk g [.slice A9 (List.length ks) c10] 29, row A9 (List.length ks) c10 (List.flatMap kC (List.set ks m (k.1, k.2.1, bs))) 41 3] := H18.pick [1, 0] (by decide) rfl
    exact .inr ⟨by omega, rfl, (rnet.fold2 (n := List.length ks) (ks := List.set ks m (k.1, k.2.1, bs)) (by simp) H19)⟩

set_option maxRecDepth 100000 in
theorem RDouble_ok (g m : Nat) (ks : List (Int × Int × List UInt8)) (k : Int × Int × List UInt8) (w : World) (D : Nat → Prop) (H : Own w D w [rnet g ks]) (hk : ks[m]? = some k) (hle : List.length ks ≤ 1000000) (h1 : 0 ≤ k.1) (h2 : 0 ≤ k.2.1) (h3 : List.length k.2.2 ≤ 4103) :
    Calls Try.prog 13 #[.pointer (some ⟨g, 0, none⟩), .int .i64 ((m : Nat) : Int)] w (Ret fun v w' => (128 ≤ List.length ks ∧ v = .int .i64 62 ∧ Own w D w' [rnet g ks]) ∨ (List.length ks < 128 ∧ v = .int .i64 0 ∧ Own w D w' [rnet g (ks ++ [(k.1, k.2.1, k.2.2)])])) := by
  have hm : m < List.length ks := (List.getElem?_eq_some_iff.1 hk).1
  refine Calls.body (args := [.pointer (some ⟨g, 0, none⟩), .int .i64 ((m : Nat) : Int)]) Try.func13 rfl rfl rfl ?_
  show Wp _ _ _ [(0, .pointer (some ⟨g, 0, none⟩)), (1, .int .i64 ((m : Nat) : Int))] _ _
  obtain ⟨A1, c2, H3⟩ := rnet.open H
  have H3le := (H3.rowLe (i := 1) rfl).1
  have H3le2 := (H3.rowLe (i := 1) rfl).2.1
  unfold maxLen at H3le2
  refine Wp.seq ?_
  refine Wp.region ?_
  refine WL.val (v := .int .i64 0) rfl (Yl.assign rfl) ?_
  refine WL.nil ?_
  refine Fin.then ?_
  refine Wp.seq ?_
  refine Wp.seq ?_
  refine Wp.region ?_
  refine WL.val (v := .int .i64 ((m : Nat) : Int)) rfl (Yl.move rfl) ?_
  refine WL.val (v := .bool (decide (((m : Nat) : Int) < 0))) rfl (Yl.kern rfl rfl (fun _ => by kernel_rfl)) ?_
  refine WL.val (v := .bool (decide (((m : Nat) : Int) < 0))) rfl (Yl.move rfl) ?_
  have hb4 : (decide (((m : Nat) : Int) < 0)) = false := (decide_eq_false (by omega))
  refine WL.valG (v := .int .i64 ((m : Nat) : Int)) rfl rfl hb4 rfl (Yl.move rfl) ?_
  refine WL.valG (v := .pointer (some ⟨g, 0, none⟩)) rfl rfl hb4 rfl (Yl.move rfl) ?_
  refine WL.valG (v := .pointer (some ⟨g, 0, none⟩)) rfl rfl hb4 rfl (Yl.kern rfl rfl (fun _ => by kernel_rfl)) ?_
  refine WL.valG (v := .pointer (some ⟨g, 0, none⟩)) rfl rfl hb4 rfl (Yl.kern rfl rfl (fun _ => by kernel_rfl)) ?_
  refine WL.valG (v := .slice A1 (List.length ks) c2) rfl rfl hb4 rfl (Yl.load rfl (Lds.one Try.isAgg27 (Cls.of (H3.cls (i := 0) rfl) rfl))) ?_
  refine WL.valG (v := .int .i64 ((List.length ks : Nat) : Int)) rfl rfl hb4 rfl (Yl.kern rfl rfl (fun _ => by kernel_rfl)) ?_
  refine WL.valG (v := .bool (decide (((m : Nat) : Int) ≥ ((List.length ks : Nat) : Int)))) rfl rfl hb4 rfl (Yl.kern rfl rfl (fun _ => by kernel_rfl)) ?_
  refine WL.val (v := .bool (decide (((m : Nat) : Int) ≥ ((List.length ks : Nat) : Int)))) rfl (Yl.pickF rfl hb4 rfl) ?_
  refine WL.nil ?_
  refine Fin.then ?_
  have hb5 : (decide (((m : Nat) : Int) ≥ ((List.length ks : Nat) : Int))) = false := (decide_eq_false (by omega))
  refine Wp.cond0 rfl hb5 ?_
  refine Wp.skip ?_
  refine Fin.then ?_
  refine Wp.seq ?_
  have H7 := H3.drew
  refine Wp.drawn (Keep [25] (fun W => ∃ L', Own w D W ([blk g [.slice A1 (List.length ks) c2] 29, row A1 (List.length ks) c2 (List.flatMap kC ks) 41 3] ++ L'))) (by kernel_rfl) (.inr ⟨_, H7⟩) ?_
  revert H7
  generalize World.drew w = w6
  intro H7
  replace H7 : Own w D w6 [blk g [.slice A1 (List.length ks) c2] 29, row A1 (List.length ks) c2 (List.flatMap kC ks) 41 3] := H7
  show GW _ _ _ _ 27 #[false, false, false, false, false, false, false, false, false, false, false, false, false, false, false, false, false, false, false, false, false, false, false, false, false, false, false] _ _ _
  refine GW.take (v := .pointer (some ⟨g, 0, none⟩)) (i := 0) (l' := #[true, false, false, false, false, false, false, false, false, false, false, false, false, false, false, false, false, false, false, false, false, false, false, false, false, false, false]) (rs := [[]]) rfl (by kernel_rfl) rfl (NoP.then NoP.base) (by kernel_rfl) (by kernel_rfl) (by kernel_rfl) (by kernel_rfl) (fun _ _ => Yl.move rfl) ?_
  refine GW.take (v := .pointer (some ⟨g, 0, none⟩)) (i := 1) (l' := #[true, true, false, false, false, false, false, false, false, false, false, false, false, false, false, false, false, false, false, false, false, false, false, false, false, false, false]) (rs := [[8, 7, 6, 4, 3, 2]]) rfl (by kernel_rfl) rfl (NoP.then NoP.base) (by kernel_rfl) (by kernel_rfl) (by kernel_rfl) (by kernel_rfl) (fun _ _ => Yl.move rfl) ?_
  refine GW.take (v := .pointer (some ⟨g, 0, none⟩)) (i := 2) (l' := #[true, true, true, false, false, false, false, false, false, false, false, false, false, false, false, false, false, false, false, false, false, false, false, false, false, false, false]) (rs := [[8, 7, 6, 4, 3]]) rfl (by kernel_rfl) rfl (NoP.then NoP.base) (by kernel_rfl) (by kernel_rfl) (by kernel_rfl) (by kernel_rfl) (fun _ _ => Yl.kern rfl rfl (fun _ => by kernel_rfl)) ?_
  refine GW.take (v := .pointer (some ⟨g, 0, none⟩)) (i := 3) (l' := #[true, true, true, true, false, false, false, false, false, false, false, false, false, false, false, false, false, false, false, false, false, false, false, false, false, false, false]) (rs := [[8, 7, 6, 4]]) rfl (by kernel_rfl) rfl (NoP.then NoP.base) (by kernel_rfl) (by kernel_rfl) (by kernel_rfl) (by kernel_rfl) (fun _ _ => Yl.kern rfl rfl (fun _ => by kernel_rfl)) ?_
  refine GW.take (v := .slice A1 (List.length ks) c2) (i := 4) (l' := #[true, true, true, true, true, false, false, false, false, false, false, false, false, false, false, false, false, false, false, false, false, false, false, false, false, false, false]) (rs := [[8, 7, 6]]) rfl (by kernel_rfl) rfl (NoP.then NoP.base) (by kernel_rfl) (by kernel_rfl) (by kernel_rfl) (by kernel_rfl) (fun _ ⟨_, H9⟩ => Yl.load rfl (Lds.one Try.isAgg27 (Cls.of (H9.cls (i := 0) rfl) rfl))) ?_
  refine GW.take (v := .int .i64 ((m : Nat) : Int)) (i := 5) (l' := #[true, true, true, true, true, true, false, false, false, false, false, false, false, false, false, false, false, false, false, false, false, false, false, false, false, false, false]) (rs := [[8, 7, 6]]) rfl (by kernel_rfl) rfl (NoP.then NoP.base) (by kernel_rfl) (by kernel_rfl) (by kernel_rfl) (by kernel_rfl) (fun _ _ => Yl.move rfl) ?_
  refine GW.take (v := .pointer (some ⟨ab A1, ao A1 + m * 3, none⟩)) (i := 6) (l' := #[true, true, true, true, true, true, true, false, false, false, false, false, false, false, false, false, false, false, false, false, false, false, false, false, false, false, false]) (rs := [[8, 7]]) rfl (by kernel_rfl) rfl (NoP.then NoP.base) (by kernel_rfl) (by kernel_rfl) (by kernel_rfl) (by kernel_rfl) (fun _ ⟨_, H9⟩ => Yl.indexAddr (El27) rfl rfl ((H9.rds (i := 1) rfl).addr (i := m) (by omega)) (by omega)) ?_
  refine GW.take (v := .pointer (some ⟨ab A1, ao A1 + m * 3, none⟩)) (i := 7) (l' := #[true, true, true, true, true, true, true, true, false, false, false, false, false, false, false, false, false, false, false, false, false, false, false, false, false, false, false]) (rs := [[8]]) rfl (by kernel_rfl) rfl (NoP.then NoP.base) (by kernel_rfl) (by kernel_rfl) (by kernel_rfl) (by kernel_rfl) (fun _ _ => Yl.kern rfl rfl (fun _ => by kernel_rfl)) ?_
  refine GW.take (v := .int .i64 k.1) (i := 8) (l' := #[true, true, true, true, true, true, true, true, true, false, false, false, false, false, false, false, false, false, false, false, false, false, false, false, false, false, false]) (rs := [[]]) rfl (by kernel_rfl) rfl (NoP.then NoP.base) (by kernel_rfl) (by kernel_rfl) (by kernel_rfl) (by kernel_rfl) (fun _ ⟨_, H9⟩ => Yl.load rfl (Lds.one Try.isAgg3 (((H9.rds (i := 1) rfl).elem kC_len hk (by decide)).at_ (k := 0) rfl))) ?_
  refine GW.take (v := .pointer (some ⟨g, 0, none⟩)) (i := 9) (l' := #[true, true, true, true, true, true, true, true, true, true, false, false, false, false, false, false, false, false, false, false, false, false, false, false, false, false, false]) (rs := [[16, 15, 14, 12, 11, 10]]) rfl (by kernel_rfl) rfl (NoP.then NoP.base) (by kernel_rfl) (by kernel_rfl) (by kernel_rfl) (by kernel_rfl) (fun _ _ => Yl.move rfl) ?_
  refine GW.take (v := .pointer (some ⟨g, 0, none⟩)) (i := 10) (l' := #[true, true, true, true, true, true, true, true, true, true, true, false, false, false, false, false, false, false, false, false, false, false, false, false, false, false, false]) (rs := [[16, 15, 14, 12, 11]]) rfl (by kernel_rfl) rfl (NoP.then NoP.base) (by kernel_rfl) (by kernel_rfl) (by kernel_rfl) (by kernel_rfl) (fun _ _ => Yl.kern rfl rfl (fun _ => by kernel_rfl)) ?_
  refine GW.take (v := .pointer (some ⟨g, 0, none⟩)) (i := 11) (l' := #[true, true, true, true, true, true, true, true, true, true, true, true, false, false, false, false, false, false, false, false, false, false, false, false, false, false, false]) (rs := [[16, 15, 14, 12]]) rfl (by kernel_rfl) rfl (NoP.then NoP.base) (by kernel_rfl) (by kernel_rfl) (by kernel_rfl) (by kernel_rfl) (fun _ _ => Yl.kern rfl rfl (fun _ => by kernel_rfl)) ?_
  refine GW.take (v := .slice A1 (List.length ks) c2) (i := 12) (l' := #[true, true, true, true, true, true, true, true, true, true, true, true, true, false, false, false, false, false, false, false, false, false, false, false, false, false, false]) (rs := [[16, 15, 14]]) rfl (by kernel_rfl) rfl (NoP.then NoP.base) (by kernel_rfl) (by kernel_rfl) (by kernel_rfl) (by kernel_rfl) (fun _ ⟨_, H9⟩ => Yl.load rfl (Lds.one Try.isAgg27 (Cls.of (H9.cls (i := 0) rfl) rfl))) ?_
  refine GW.take (v := .int .i64 ((m : Nat) : Int)) (i := 13) (l' := #[true, true, true, true, true, true, true, true, true, true, true, true, true, true, false, false, false, false, false, false, false, false, false, false, false, false, false]) (rs := [[16, 15, 14]]) rfl (by kernel_rfl) rfl (NoP.then NoP.base) (by kernel_rfl) (by kernel_rfl) (by kernel_rfl) (by kernel_rfl) (fun _ _ => Yl.move rfl) ?_
  refine GW.take (v := .pointer (some ⟨ab A1, ao A1 + m * 3, none⟩)) (i := 14) (l' := #[true, true, true, true, true, true, true, true, true, true, true, true, true, true, true, false, false, false, false, false, false, false, false, false, false, false, false]) (rs := [[16, 15]]) rfl (by kernel_rfl) rfl (NoP.then NoP.base) (by kernel_rfl) (by kernel_rfl) (by kernel_rfl) (by kernel_rfl) (fun _ ⟨_, H9⟩ => Yl.indexAddr (El27) rfl rfl ((H9.rds (i := 1) rfl).addr (i := m) (by omega)) (by omega)) ?_
  refine GW.take (v := .pointer (some ⟨ab A1, ao A1 + m * 3 + 1, none⟩)) (i := 15) (l' := #[true, true, true, true, true, true, true, true, true, true, true, true, true, true, true, true, false, false, false, false, false, false, false, false, false, false, false]) (rs := [[16]]) rfl (by kernel_rfl) rfl (NoP.then NoP.base) (by kernel_rfl) (by kernel_rfl) (by kernel_rfl) (by kernel_rfl) (fun _ _ => Yl.kern rfl rfl (fun _ => by kernel_rfl)) ?_
  refine GW.take (v := .int .i64 k.2.1) (i := 16) (l' := #[true, true, true, true, true, true, true, true, true, true, true, true, true, true, true, true, true, false, false, false, false, false, false, false, false, false, false]) (rs := [[]]) rfl (by kernel_rfl) rfl (NoP.then NoP.base) (by kernel_rfl) (by kernel_rfl) (by kernel_rfl) (by kernel_rfl) (fun _ ⟨_, H9⟩ => Yl.load rfl (Lds.one Try.isAgg3 (((H9.rds (i := 1) rfl).elem kC_len hk (by decide)).at_ (k := 1) rfl))) ?_
  refine GW.take (v := .pointer (some ⟨g, 0, none⟩)) (i := 17) (l' := #[true, true, true, true, true, true, true, true, true, true, true, true, true, true, true, true, true, true, false, false, false, false, false, false, false, false, false]) (rs := [[24, 23, 22, 20, 19, 18]]) rfl (by kernel_rfl) rfl (NoP.then NoP.base) (by kernel_rfl) (by kernel_rfl) (by kernel_rfl) (by kernel_rfl) (fun _ _ => Yl.move rfl) ?_
  refine GW.take (v := .pointer (some ⟨g, 0, none⟩)) (i := 18) (l' := #[true, true, true, true, true, true, true, true, true, true, true, true, true, true, true, true, true, true, true, false, false, false, false, false, false, false, false]) (rs := [[24, 23, 22, 20, 19]]) rfl (by kernel_rfl) rfl (NoP.then NoP.base) (by kernel_rfl) (by kernel_rfl) (by kernel_rfl) (by kernel_rfl) (fun _ _ => Yl.kern rfl rfl (fun _ => by kernel_rfl)) ?_
  refine GW.take (v := .pointer (some ⟨g, 0, none⟩)) (i := 19) (l' := #[true, true, true, true, true, true, true, true, true, true, true, true, true, true, true, true, true, true, true, true, false, false, false, false, false, false, false]) (rs := [[24, 23, 22, 20]]) rfl (by kernel_rfl) rfl (NoP.then NoP.base) (by kernel_rfl) (by kernel_rfl) (by kernel_rfl) (by kernel_rfl) (fun _ _ => Yl.kern rfl rfl (fun _ => by kernel_rfl)) ?_
  refine GW.take (v := .slice A1 (List.length ks) c2) (i := 20) (l' := #[true, true, true, true, true, true, true, true, true, true, true, true, true, true, true, true, true, true, true, true, true, false, false, false, false, false, false]) (rs := [[24, 23, 22]]) rfl (by kernel_rfl) rfl (NoP.then NoP.base) (by kernel_rfl) (by kernel_rfl) (by kernel_rfl) (by kernel_rfl) (fun _ ⟨_, H9⟩ => Yl.load rfl (Lds.one Try.isAgg27 (Cls.of (H9.cls (i := 0) rfl) rfl))) ?_
  refine GW.take (v := .int .i64 ((m : Nat) : Int)) (i := 21) (l' := #[true, true, true, true, true, true, true, true, true, true, true, true, true, true, true, true, true, true, true, true, true, true, false, false, false, false, false]) (rs := [[24, 23, 22]]) rfl (by kernel_rfl) rfl (NoP.then NoP.base) (by kernel_rfl) (by kernel_rfl) (by kernel_rfl) (by kernel_rfl) (fun _ _ => Yl.move rfl) ?_
  refine GW.take (v := .pointer (some ⟨ab A1, ao A1 + m * 3, none⟩)) (i := 22) (l' := #[true, true, true, true, true, true, true, true, true, true, true, true, true, true, true, true, true, true, true, true, true, true, true, false, false, false, false]) (rs := [[24, 23]]) rfl (by kernel_rfl) rfl (NoP.then NoP.base) (by kernel_rfl) (by kernel_rfl) (by kernel_rfl) (by kernel_rfl) (fun _ ⟨_, H9⟩ => Yl.indexAddr (El27) rfl rfl ((H9.rds (i := 1) rfl).addr (i := m) (by omega)) (by omega)) ?_
  refine GW.take (v := .pointer (some ⟨ab A1, ao A1 + m * 3 + 2, none⟩)) (i := 23) (l' := #[true, true, true, true, true, true, true, true, true, true, true, true, true, true, true, true, true, true, true, true, true, true, true, true, false, false, false]) (rs := [[24]]) rfl (by kernel_rfl) rfl (NoP.then NoP.base) (by kernel_rfl) (by kernel_rfl) (by kernel_rfl) (by kernel_rfl) (fun _ _ => Yl.kern rfl rfl (fun _ => by kernel_rfl)) ?_
  refine GW.take (v := .string ⟨List.toArray k.2.2⟩) (i := 24) (l' := #[true, true, true, true, true, true, true, true, true, true, true, true, true, true, true, true, true, true, true, true, true, true, true, true, true, false, false]) (rs := [[]]) rfl (by kernel_rfl) rfl (NoP.then NoP.base) (by kernel_rfl) (by kernel_rfl) (by kernel_rfl) (by kernel_rfl) (fun _ ⟨_, H9⟩ => Yl.load rfl (Lds.one Try.isAgg9 (((H9.rds (i := 1) rfl).elem kC_len hk (by decide)).at_ (k := 2) rfl))) ?_
  have H9 : Own w D w6 [rnet g ks] := rnet.fold2 (n := List.length ks) rfl H7
  obtain ⟨D10, HP11, ro12, bk13, rr14⟩ := Own.enter (L1 := [rnet g ks]) (L2 := []) H9
  refine GW.do (i := 25) (l' := #[true, true, true, true, true, true, true, true, true, true, true, true, true, true, true, true, true, true, true, true, true, true, true, true, true, true, false]) rfl rfl (by kernel_rfl) (by kernel_rfl) (Do.call Try.call8 rfl (RSend_ok g ks k.1 k.2.1 k.2.2 _ _ HP11 (by omega)) ?_)
  rintro _ w15 (⟨q017, rfl, HQ16⟩ | ⟨q019, q120, rfl, HQ18⟩ | ⟨q022, q123, rfl, HQ21⟩ | ⟨q125, q226, rfl, HQ24⟩)
  · skip
    have H27 : Own w D w15 [rnet g ks] := bk13 _ _ HQ16
    exfalso; omega
  · skip
    have H28 : Own w D w15 [rnet g ks] := bk13 _ _ HQ18
    exfalso; omega
  · skip
    have H29 : Own w D w15 [rnet g ks] := bk13 _ _ HQ21
    refine ⟨.inl rfl, ?_⟩
    show GW _ _ _ _ 1 #[true, true, true, true, true, true, true, true, true, true, true, true, true, true, true, true, true, true, true, true, true, true, true, true, true, true, false] _ _ _
    refine GW.takeA (v := .int .i64 62) (i := 26) (l' := #[true, true, true, true, true, true, true, true, true, true, true, true, true, true, true, true, true, true, true, true, true, true, true, true, true, true, true])  rfl (by kernel_rfl) rfl (NoP.then NoP.base) (by kernel_rfl) (by kernel_rfl) (by kernel_rfl) (by kernel_rfl) (fun _ => Yl.assign rfl) ?_
    refine GW.done (by kernel_rfl) ?_
    refine Fin.then ?_
    refine Wp.ret ?_
    refine Fin.res (res1 rfl rfl) ?_
    exact .inl ⟨by omega, rfl, H29⟩
  · skip
    have H30 : Own w D w15 [rnet g (ks ++ [(k.1, k.2.1, k.2.2)])] := bk13 _ _ HQ24
    refine ⟨.inl rfl, ?_⟩
    show GW _ _ _ _ 1 #[true, true, true, true, true, true, true, true, true, true, true, true, true, true, true, true, true, true, true, true, true, true, true, true, true, true, false] _ _ _
    refine GW.takeA (v := .int .i64 0) (i := 26) (l' := #[true, true, true, true, true, true, true, true, true, true, true, true, true, true, true, true, true, true, true, true, true, true, true, true, true, true, true])  rfl (by kernel_rfl) rfl (NoP.then NoP.base) (by kernel_rfl) (by kernel_rfl) (by kernel_rfl) (by kernel_rfl) (fun _ => Yl.assign rfl) ?_
    refine GW.done (by kernel_rfl) ?_
    refine Fin.then ?_
    refine Wp.ret ?_
    refine Fin.res (res1 rfl rfl) ?_
    exact .inr ⟨by omega, rfl, H30⟩
end Go.Proofs.Ytbflloaamnphkaa
