/-
  tuple: Compare, Under, cutPart, read.
-/
import Derived.Test.YticaheijlapllaaTa
namespace Go.Proofs.Yticaheijlapllaa
open Go.RowKit
set_option linter.unusedVariables false
set_option linter.unusedSectionVars false

def cmpS (x y : List UInt8) : Int := if x < y then -1 else if y < x then 1 else 0
theorem cmp_ne0 {x y : List UInt8} (h1 : ¬ x < y) (h2 : ¬ y < x) : ¬ cmpS x y ≠ 0 := by unfold cmpS; rw [if_neg h1, if_neg h2]; simp
def cmpI (x y : Int) : Int := if x < y then -1 else if x > y then 1 else 0
def lcmp : List (List UInt8) → List (List UInt8) → Int
  | [], [] => 0
  | [], _ :: _ => -1
  | _ :: _, [] => 1
  | x :: a, y :: b => if cmpS x y ≠ 0 then cmpS x y else lcmp a b
theorem lcmp_nil (b : List (List UInt8)) : lcmp [] b = cmpI 0 (List.length b : Nat) := by
  cases b with
  | nil => rfl
  | cons y b => unfold lcmp cmpI; rw [if_pos (by simp only [List.length_cons]; omega)]
theorem lcmp_nil2 (a : List (List UInt8)) : lcmp a [] = cmpI (List.length a : Nat) 0 := by
  cases a with
  | nil => rfl
  | cons y b => unfold lcmp cmpI; rw [if_neg (by simp only [List.length_cons]; omega), if_pos (by simp only [List.length_cons]; omega)]
theorem lcmp_at {a b : List (List UInt8)} {k : Nat} {x y : List UInt8} (hx : a[k]? = some x) (hy : b[k]? = some y) : lcmp (List.drop k a) (List.drop k b) = if cmpS x y ≠ 0 then cmpS x y else lcmp (List.drop (k + 1) a) (List.drop (k + 1) b) := by
  obtain ⟨h1, rfl⟩ := List.getElem?_eq_some_iff.1 hx
  obtain ⟨h2, rfl⟩ := List.getElem?_eq_some_iff.1 hy
  rw [List.drop_eq_getElem_cons h1, List.drop_eq_getElem_cons h2]; rfl
theorem lcmp_end {a b : List (List UInt8)} {k : Nat} (h : k = min a.length b.length) : lcmp (List.drop k a) (List.drop k b) = cmpI (List.length a : Nat) (List.length b : Nat) := by
  rcases Nat.le_total a.length b.length with h1 | h1
  · rw [List.drop_of_length_le (l := a) (by omega), lcmp_nil, List.length_drop]; unfold cmpI
    by_cases e : a.length < b.length
    · rw [if_pos (by omega), if_pos (by omega)]
    · rw [if_neg (by omega), if_neg (by omega), if_neg (by omega), if_neg (by omega)]
  · rw [List.drop_of_length_le (l := b) (by omega), lcmp_nil2, List.length_drop]; unfold cmpI
    by_cases e : b.length < a.length
    · rw [if_neg (by omega), if_pos (by omega), if_neg (by omega), if_pos (by omega)]
    · rw [if_neg (by omega), if_neg (by omega), if_neg (by omega), if_neg (by omega)]

set_option maxRecDepth 100000 in
theorem nan_s (x : List UInt8) (w : World) (D : Nat → Prop) (H : Own w D w [])  :
    Calls Try.prog 25 #[.string ⟨List.toArray x⟩] w (Ret fun v w' => v = .bool false ∧ Own w D w' []) := by
  refine Calls.body (args := [.string ⟨List.toArray x⟩]) Try.func25 rfl rfl rfl ?_
  show Wp _ _ _ [(0, .string ⟨List.toArray x⟩)] _ _
  refine Wp.seq ?_
  refine Wp.region ?_
  refine WL.val (v := .bool false) rfl (Yl.assign rfl) ?_
  refine WL.nil ?_
  refine Fin.then ?_
  refine Wp.seq ?_
  refine Wp.region ?_
  refine WL.val (v := .string ⟨List.toArray x⟩) rfl (Yl.move rfl) ?_
  refine WL.val (v := .string ⟨List.toArray x⟩) rfl (Yl.move rfl) ?_
  refine WL.val (v := .bool false) rfl (Yl.bool (e := decide (x ≠ x)) (Yl.strNe rfl rfl) (by simp)) ?_
  refine WL.val (v := .bool false) rfl (Yl.assign rfl) ?_
  refine WL.nil ?_
  refine Fin.then ?_
  refine Wp.ret ?_
  refine Fin.res (res1 rfl rfl) ?_
  exact ⟨rfl, H⟩

set_option maxRecDepth 100000 in
theorem nan_i (x : Int) (w : World) (D : Nat → Prop) (H : Own w D w [])  :
    Calls Try.prog 26 #[.int .i64 x] w (Ret fun v w' => v = .bool false ∧ Own w D w' []) := by
  refine Calls.body (args := [.int .i64 x]) Try.func26 rfl rfl rfl ?_
  show Wp _ _ _ [(0, .int .i64 x)] _ _
  refine Wp.seq ?_
  refine Wp.region ?_
  refine WL.val (v := .bool false) rfl (Yl.assign rfl) ?_
  refine WL.nil ?_
  refine Fin.then ?_
  refine Wp.seq ?_
  refine Wp.region ?_
  refine WL.val (v := .int .i64 x) rfl (Yl.move rfl) ?_
  refine WL.val (v := .int .i64 x) rfl (Yl.move rfl) ?_
  refine WL.val (v := .bool false) rfl (Yl.bool (e := !(decide (x = x))) (Yl.kern rfl rfl (fun _ => by kernel_rfl)) (by simp)) ?_
  refine WL.val (v := .bool false) rfl (Yl.assign rfl) ?_
  refine WL.nil ?_
  refine Fin.then ?_
  refine Wp.ret ?_
  refine Fin.res (res1 rfl rfl) ?_
  exact ⟨rfl, H⟩

set_option maxRecDepth 100000 in
theorem cmp_s (x y : List UInt8) (w : World) (D : Nat → Prop) (H : Own w D w [])  :
    Calls Try.prog 19 #[.string ⟨List.toArray x⟩, .string ⟨List.toArray y⟩] w (Ret fun v w' => v = .int .i64 (cmpS x y) ∧ Own w D w' []) := by
  refine Calls.body (args := [.string ⟨List.toArray x⟩, .string ⟨List.toArray y⟩]) Try.func19 rfl rfl rfl ?_
  show Wp _ _ _ [(0, .string ⟨List.toArray x⟩), (1, .string ⟨List.toArray y⟩)] _ _
  refine Wp.seq ?_
  refine Wp.region ?_
  refine WL.val (v := .int .i64 0) rfl (Yl.assign rfl) ?_
  refine WL.nil ?_
  refine Fin.then ?_
  refine Wp.seq ?_
  refine Wp.region ?_
  refine WL.val (v := .string ⟨List.toArray x⟩) rfl (Yl.move rfl) ?_
  obtain ⟨D1, HP2, ro3, bk4, rr5⟩ := Own.enter (L1 := []) (L2 := []) H
  refine WL.do rfl (Do.call Try.call25 rfl (nan_s x _ _ HP2) ?_)
  rintro _ w6 ⟨rfl, HQ7⟩
  have H8 : Own w D w6 [] := bk4 _ _ HQ7
  refine WL.val (v := .bool false) rfl (Yl.assign rfl) ?_
  refine WL.nil ?_
  refine Fin.then ?_
  refine Wp.seq ?_
  refine Wp.region ?_
  refine WL.val (v := .string ⟨List.toArray y⟩) rfl (Yl.move rfl) ?_
  obtain ⟨D9, HP10, ro11, bk12, rr13⟩ := Own.enter (L1 := []) (L2 := []) H8
  refine WL.do rfl (Do.call Try.call25 rfl (nan_s y _ _ HP10) ?_)
  rintro _ w14 ⟨rfl, HQ15⟩
  have H16 : Own w D w14 [] := bk12 _ _ HQ15
  refine WL.val (v := .bool false) rfl (Yl.assign rfl) ?_
  refine WL.nil ?_
  refine Fin.then ?_
  refine Wp.seq ?_
  refine Wp.seq ?_
  refine Wp.region ?_
  refine WL.val (v := .bool false) rfl (Yl.move rfl) ?_
  refine WL.nil ?_
  refine Fin.then ?_
  refine Wp.cond0 rfl rfl ?_
  refine Wp.skip ?_
  refine Fin.then ?_
  refine Wp.seq ?_
  refine Wp.seq ?_
  refine Wp.region ?_
  refine WL.val (v := .bool false) rfl (Yl.move rfl) ?_
  refine WL.nil ?_
  refine Fin.then ?_
  refine Wp.cond0 rfl rfl ?_
  refine Wp.skip ?_
  refine Fin.then ?_
  refine Wp.seq ?_
  refine Wp.seq ?_
  refine Wp.region ?_
  refine WL.val (v := .string ⟨List.toArray x⟩) rfl (Yl.move rfl) ?_
  refine WL.val (v := .string ⟨List.toArray y⟩) rfl (Yl.move rfl) ?_
  refine WL.val (v := .bool (decide (x < y))) rfl (Yl.bool (e := Op.bytesLess x y) (Yl.strLt rfl rfl) (bl_lt _ _)) ?_
  refine WL.nil ?_
  refine Fin.then ?_
  by_cases h17 : x < y
  · skip
    refine Wp.cond1 rfl (decide_eq_true h17) ?_
    refine Wp.seq ?_
    refine Wp.region ?_
    refine WL.val (v := .int .i64 (-1)) rfl (Yl.assign rfl) ?_
    refine WL.nil ?_
    refine Fin.then ?_
    refine Wp.ret ?_
    refine Fin.thenR ?_
    refine Fin.res (res1 rfl rfl) ?_
    exact ⟨by unfold cmpS; first | rw [if_pos (by assumption)] | rw [if_neg (by assumption), if_pos (by assumption)] | rw [if_neg (by assumption), if_neg (by assumption)], H16⟩
  · skip
    refine Wp.cond0 rfl (decide_eq_false h17) ?_
    refine Wp.skip ?_
    refine Fin.then ?_
    refine Wp.seq ?_
    refine Wp.seq ?_
    refine Wp.region ?_
    refine WL.val (v := .string ⟨List.toArray x⟩) rfl (Yl.move rfl) ?_
    refine WL.val (v := .string ⟨List.toArray y⟩) rfl (Yl.move rfl) ?_
    refine WL.val (v := .bool (decide (y < x))) rfl (Yl.bool (e := !(Op.bytesLess x y || decide (x = y))) (Yl.strGt rfl rfl) (bl_gt _ _)) ?_
    refine WL.nil ?_
    refine Fin.then ?_
    by_cases h18 : y < x
    · skip
      refine Wp.cond1 rfl (decide_eq_true h18) ?_
      refine Wp.seq ?_
      refine Wp.region ?_
      refine WL.val (v := .int .i64 1) rfl (Yl.assign rfl) ?_
      refine WL.nil ?_
      refine Fin.then ?_
      refine Wp.ret ?_
      refine Fin.thenR ?_
      refine Fin.res (res1 rfl rfl) ?_
      exact ⟨by unfold cmpS; first | rw [if_pos (by assumption)] | rw [if_neg (by assumption), if_pos (by assumption)] | rw [if_neg (by assumption), if_neg (by assumption)], H16⟩
    · skip
      refine Wp.cond0 rfl (decide_eq_false h18) ?_
      refine Wp.skip ?_
      refine Fin.then ?_
      refine Wp.seq ?_
      refine Wp.region ?_
      refine WL.val (v := .int .i64 0) rfl (Yl.assign rfl) ?_
      refine WL.nil ?_
      refine Fin.then ?_
      refine Wp.ret ?_
      refine Fin.res (res1 rfl rfl) ?_
      exact ⟨by unfold cmpS; first | rw [if_pos (by assumption)] | rw [if_neg (by assumption), if_pos (by assumption)] | rw [if_neg (by assumption), if_neg (by assumption)], H16⟩

set_option maxRecDepth 100000 in
theorem cmp_i (x y : Int) (w : World) (D : Nat → Prop) (H : Own w D w [])  :
    Calls Try.prog 20 #[.int .i64 x, .int .i64 y] w (Ret fun v w' => v = .int .i64 (cmpI x y) ∧ Own w D w' []) := by
  refine Calls.body (args := [.int .i64 x, .int .i64 y]) Try.func20 rfl rfl rfl ?_
  show Wp _ _ _ [(0, .int .i64 x), (1, .int .i64 y)] _ _
  refine Wp.seq ?_
  refine Wp.region ?_
  refine WL.val (v := .int .i64 0) rfl (Yl.assign rfl) ?_
  refine WL.nil ?_
  refine Fin.then ?_
  refine Wp.seq ?_
  refine Wp.region ?_
  refine WL.val (v := .int .i64 x) rfl (Yl.move rfl) ?_
  obtain ⟨D1, HP2, ro3, bk4, rr5⟩ := Own.enter (L1 := []) (L2 := []) H
  refine WL.do rfl (Do.call Try.call26 rfl (nan_i x _ _ HP2) ?_)
  rintro _ w6 ⟨rfl, HQ7⟩
  have H8 : Own w D w6 [] := bk4 _ _ HQ7
  refine WL.val (v := .bool false) rfl (Yl.assign rfl) ?_
  refine WL.nil ?_
  refine Fin.then ?_
  refine Wp.seq ?_
  refine Wp.region ?_
  refine WL.val (v := .int .i64 y) rfl (Yl.move rfl) ?_
  obtain ⟨D9, HP10, ro11, bk12, rr13⟩ := Own.enter (L1 := []) (L2 := []) H8
  refine WL.do rfl (Do.call Try.call26 rfl (nan_i y _ _ HP10) ?_)
  rintro _ w14 ⟨rfl, HQ15⟩
  have H16 : Own w D w14 [] := bk12 _ _ HQ15
  refine WL.val (v := .bool false) rfl (Yl.assign rfl) ?_
  refine WL.nil ?_
  refine Fin.then ?_
  refine Wp.seq ?_
  refine Wp.seq ?_
  refine Wp.region ?_
  refine WL.val (v := .bool false) rfl (Yl.move rfl) ?_
  refine WL.nil ?_
  refine Fin.then ?_
  refine Wp.cond0 rfl rfl ?_
  refine Wp.skip ?_
  refine Fin.then ?_
  refine Wp.seq ?_
  refine Wp.seq ?_
  refine Wp.region ?_
  refine WL.val (v := .bool false) rfl (Yl.move rfl) ?_
  refine WL.nil ?_
  refine Fin.then ?_
  refine Wp.cond0 rfl rfl ?_
  refine Wp.skip ?_
  refine Fin.then ?_
  refine Wp.seq ?_
  refine Wp.seq ?_
  refine Wp.region ?_
  refine WL.val (v := .int .i64 x) rfl (Yl.move rfl) ?_
  refine WL.val (v := .int .i64 y) rfl (Yl.move rfl) ?_
  refine WL.val (v := .bool (decide (x < y))) rfl (Yl.kern rfl rfl (fun _ => by kernel_rfl)) ?_
  refine WL.nil ?_
  refine Fin.then ?_
  by_cases h17 : x < y
  · skip
    refine Wp.cond1 rfl (decide_eq_true h17) ?_
    refine Wp.seq ?_
    refine Wp.region ?_
    refine WL.val (v := .int .i64 (-1)) rfl (Yl.assign rfl) ?_
    refine WL.nil ?_
    refine Fin.then ?_
    refine Wp.ret ?_
    refine Fin.thenR ?_
    refine Fin.res (res1 rfl rfl) ?_
    exact ⟨by unfold cmpI; first | rw [if_pos (by omega)] | rw [if_neg (by omega), if_pos (by omega)] | rw [if_neg (by omega), if_neg (by omega)], H16⟩
  · skip
    refine Wp.cond0 rfl (decide_eq_false h17) ?_
    refine Wp.skip ?_
    refine Fin.then ?_
    refine Wp.seq ?_
    refine Wp.seq ?_
    refine Wp.region ?_
    refine WL.val (v := .int .i64 x) rfl (Yl.move rfl) ?_
    refine WL.val (v := .int .i64 y) rfl (Yl.move rfl) ?_
    refine WL.val (v := .bool (decide (x > y))) rfl (Yl.kern rfl rfl (fun _ => by kernel_rfl)) ?_
    refine WL.nil ?_
    refine Fin.then ?_
    by_cases h18 : x > y
    · skip
      refine Wp.cond1 rfl (decide_eq_true h18) ?_
      refine Wp.seq ?_
      refine Wp.region ?_
      refine WL.val (v := .int .i64 1) rfl (Yl.assign rfl) ?_
      refine WL.nil ?_
      refine Fin.then ?_
      refine Wp.ret ?_
      refine Fin.thenR ?_
      refine Fin.res (res1 rfl rfl) ?_
      exact ⟨by unfold cmpI; first | rw [if_pos (by omega)] | rw [if_neg (by omega), if_pos (by omega)] | rw [if_neg (by omega), if_neg (by omega)], H16⟩
    · skip
      refine Wp.cond0 rfl (decide_eq_false h18) ?_
      refine Wp.skip ?_
      refine Fin.then ?_
      refine Wp.seq ?_
      refine Wp.region ?_
      refine WL.val (v := .int .i64 0) rfl (Yl.assign rfl) ?_
      refine WL.nil ?_
      refine Fin.then ?_
      refine Wp.ret ?_
      refine Fin.res (res1 rfl rfl) ?_
      exact ⟨by unfold cmpI; first | rw [if_pos (by omega)] | rw [if_neg (by omega), if_pos (by omega)] | rw [if_neg (by omega), if_neg (by omega)], H16⟩

set_option maxRecDepth 100000 in
theorem Compare_ok (A B : Option Addr) (c e : Nat) (xs ys : List (List UInt8)) (w : World) (D : Nat → Prop) (H : Own w D w []) (hx : Ro w D fun w => Rds w 1 A (List.length xs) (List.flatMap eS xs)) (hy : Ro w D fun w => Rds w 1 B (List.length ys) (List.flatMap eS ys)) (hl : List.length xs ≤ 9223372036854775807) :
    Calls Try.prog 13 #[.slice A (List.length xs) c, .slice B (List.length ys) e] w (Ret fun v w' => v = .int .i64 (lcmp xs ys) ∧ Own w D w' []) := by
  refine Calls.body (args := [.slice A (List.length xs) c, .slice B (List.length ys) e]) Try.func13 rfl rfl rfl ?_
  show Wp _ _ _ [(0, .slice A (List.length xs) c), (1, .slice B (List.length ys) e)] _ _
  refine Wp.seq ?_
  refine Wp.region ?_
  refine WL.val (v := .int .i64 0) rfl (Yl.assign rfl) ?_
  refine WL.nil ?_
  refine Fin.then ?_
  refine Wp.seq ?_
  refine Wp.seq ?_
  refine Wp.region ?_
  refine WL.val (v := .slice A (List.length xs) c) rfl (Yl.move rfl) ?_
  refine WL.val (v := .int .i64 ((List.length xs : Nat) : Int)) rfl (Yl.kern rfl rfl (fun _ => by kernel_rfl)) ?_
  refine WL.val (v := .slice B (List.length ys) e) rfl (Yl.move rfl) ?_
  refine WL.val (v := .int .i64 ((List.length ys : Nat) : Int)) rfl (Yl.kern rfl rfl (fun _ => by kernel_rfl)) ?_
  refine WL.val (v := .int .i64 ((min (List.length xs) (List.length ys) : Nat) : Int)) rfl (Yl.int (e := if ((List.length ys : Nat) : Int) < ((List.length xs : Nat) : Int) then ((List.length ys : Nat) : Int) else ((List.length xs : Nat) : Int)) (Yl.kern rfl rfl (fun _ => by kernel_rfl)) (by omega)) ?_
  refine WL.val (v := .int .i64 0) rfl (Yl.move rfl) ?_
  refine WL.nil ?_
  refine Fin.then ?_
  refine Wp.block ?_
  refine Wp.loop (ι := Nat) (fun i => [(12, .int .i64 ((i : Nat) : Int)), (11, .int .i64 ((min (List.length xs) (List.length ys) : Nat) : Int)), (10, .int .i64 ((List.length ys : Nat) : Int)), (9, .slice B (List.length ys) e), (8, .int .i64 ((List.length xs : Nat) : Int)), (7, .slice A (List.length xs) c), (0, .slice A (List.length xs) c), (1, .slice B (List.length ys) e)]) (fun (i : Nat) w' => Own w D w' [] ∧ (i ≤ min (List.length xs) (List.length ys) ∧ lcmp xs ys = lcmp (List.drop i xs) (List.drop i ys))) (fun i => min (List.length xs) (List.length ys) - i) 0 ⟨rfl, rfl, rfl, rfl, rfl, rfl, rfl, rfl, trivial⟩ ⟨H, (show 0 ≤ min (List.length xs) (List.length ys) ∧ lcmp xs ys = lcmp (List.drop 0 xs) (List.drop 0 ys) from ⟨by omega, rfl⟩)⟩ ?_
  rintro k w1 ⟨H2, hf3⟩
  show Wp _ _ _ [(12, .int .i64 ((k : Nat) : Int)), (11, .int .i64 ((min (List.length xs) (List.length ys) : Nat) : Int)), (10, .int .i64 ((List.length ys : Nat) : Int)), (9, .slice B (List.length ys) e), (8, .int .i64 ((List.length xs : Nat) : Int)), (7, .slice A (List.length xs) c), (0, .slice A (List.length xs) c), (1, .slice B (List.length ys) e)] _ _
  replace H2 : Own w D w1 [] := H2
  replace hf3 : k ≤ min (List.length xs) (List.length ys) ∧ lcmp xs ys = lcmp (List.drop k xs) (List.drop k ys) := hf3
  obtain ⟨hk, hq⟩ := hf3
  refine Wp.seq ?_
  refine Wp.region ?_
  refine WL.val (v := .bool (decide (((k : Nat) : Int) < ((min (List.length xs) (List.length ys) : Nat) : Int)))) rfl (Yl.kern rfl rfl (fun _ => by kernel_rfl)) ?_
  refine WL.nil ?_
  refine Fin.then ?_
  refine Wp.seq ?_
  by_cases h4 : ((k : Nat) : Int) < ((min (List.length xs) (List.length ys) : Nat) : Int)
  · skip
    refine Wp.cond1 rfl (decide_eq_true h4) ?_
    refine Wp.skip ?_
    refine Fin.then ?_
    refine Wp.seq ?_
    refine Wp.block ?_
    refine Wp.seq ?_
    refine Wp.region ?_
    refine WL.val (v := .int .i64 ((k : Nat) : Int)) rfl (Yl.move rfl) ?_
    refine WL.val (v := .int .i64 ((k : Nat) : Int)) rfl (Yl.assign rfl) ?_
    refine WL.nil ?_
    refine Fin.then ?_
    refine Wp.seq ?_
    have H6 := H2.drew
    refine Wp.drawn (Keep [] (fun W => ∃ L', Own w D W ([] ++ L'))) (by kernel_rfl) (.inr ⟨_, H6⟩) ?_
    revert H6
    generalize World.drew w1 = w5
    intro H6
    replace H6 : Own w D w5 [] := H6
    show GW _ _ _ _ 10 #[false, false, false, false, false, false, false, false, false, false] _ _ _
    refine GW.take (v := .slice A (List.length xs) c) (i := 0) (l' := #[true, false, false, false, false, false, false, false, false, false]) (rs := []) rfl (by kernel_rfl) rfl (NoP.then (NoP.block (NoP.then (NoP.then (NoP.block (NoP.then NoP.base)))))) (by kernel_rfl) (by kernel_rfl) (by kernel_rfl) (by kernel_rfl) (fun _ _ => Yl.move rfl) ?_
    refine GW.take (v := .int .i64 ((k : Nat) : Int)) (i := 1) (l' := #[true, true, false, false, false, false, false, false, false, false]) (rs := []) rfl (by kernel_rfl) rfl (NoP.then (NoP.block (NoP.then (NoP.then (NoP.block (NoP.then NoP.base)))))) (by kernel_rfl) (by kernel_rfl) (by kernel_rfl) (by kernel_rfl) (fun _ _ => Yl.move rfl) ?_
    obtain ⟨x8, hx9⟩ := at_of (ls := xs) (i := k) (by first | omega | (simp; done) | (simp; omega))
    refine GW.take (v := .pointer (some ⟨ab A, ao A + k * 1, none⟩)) (i := 2) (l' := #[true, true, true, false, false, false, false, false, false, false]) (rs := []) rfl (by kernel_rfl) rfl (NoP.then (NoP.block (NoP.then (NoP.then (NoP.block (NoP.then NoP.base)))))) (by kernel_rfl) (by kernel_rfl) (by kernel_rfl) (by kernel_rfl) (fun _ ⟨_, H9⟩ => Yl.indexAddr (El22) rfl rfl ((H9.ro hx).addr (i := k) (by omega)) (by omega)) ?_
    refine GW.take (v := .string ⟨List.toArray x8⟩) (i := 3) (l' := #[true, true, true, true, false, false, false, false, false, false]) (rs := []) rfl (by kernel_rfl) rfl (NoP.then (NoP.block (NoP.then (NoP.then (NoP.block (NoP.then NoP.base)))))) (by kernel_rfl) (by kernel_rfl) (by kernel_rfl) (by kernel_rfl) (fun _ ⟨_, H9⟩ => Yl.load rfl (Lds.one Try.isAgg9 (((H9.ro hx).elem eS_len hx9 (by decide)).at_ (k := 0) rfl))) ?_
    refine GW.take (v := .slice B (List.length ys) e) (i := 4) (l' := #[true, true, true, true, true, false, false, false, false, false]) (rs := []) rfl (by kernel_rfl) rfl (NoP.then (NoP.block (NoP.then (NoP.then (NoP.block (NoP.then NoP.base)))))) (by kernel_rfl) (by kernel_rfl) (by kernel_rfl) (by kernel_rfl) (fun _ _ => Yl.move rfl) ?_
    refine GW.take (v := .int .i64 ((k : Nat) : Int)) (i := 5) (l' := #[true, true, true, true, true, true, false, false, false, false]) (rs := []) rfl (by kernel_rfl) rfl (NoP.then (NoP.block (NoP.then (NoP.then (NoP.block (NoP.then NoP.base)))))) (by kernel_rfl) (by kernel_rfl) (by kernel_rfl) (by kernel_rfl) (fun _ _ => Yl.move rfl) ?_
    obtain ⟨x10, hx11⟩ := at_of (ls := ys) (i := k) (by first | omega | (simp; done) | (simp; omega))
    refine GW.take (v := .pointer (some ⟨ab B, ao B + k * 1, none⟩)) (i := 6) (l' := #[true, true, true, true, true, true, true, false, false, false]) (rs := []) rfl (by kernel_rfl) rfl (NoP.then (NoP.block (NoP.then (NoP.then (NoP.block (NoP.then NoP.base)))))) (by kernel_rfl) (by kernel_rfl) (by kernel_rfl) (by kernel_rfl) (fun _ ⟨_, H9⟩ => Yl.indexAddr (El22) rfl rfl ((H9.ro hy).addr (i := k) (by omega)) (by omega)) ?_
    refine GW.take (v := .string ⟨List.toArray x10⟩) (i := 7) (l' := #[true, true, true, true, true, true, true, true, false, false]) (rs := []) rfl (by kernel_rfl) rfl (NoP.then (NoP.block (NoP.then (NoP.then (NoP.block (NoP.then NoP.base)))))) (by kernel_rfl) (by kernel_rfl) (by kernel_rfl) (by kernel_rfl) (fun _ ⟨_, H9⟩ => Yl.load rfl (Lds.one Try.isAgg9 (((H9.ro hy).elem eS_len hx11 (by decide)).at_ (k := 0) rfl))) ?_
    obtain ⟨D12, HP13, ro14, bk15, rr16⟩ := Own.enter (L1 := []) (L2 := []) H6
    refine GW.do (i := 8) (l' := #[true, true, true, true, true, true, true, true, true, false]) rfl rfl (by kernel_rfl) (by kernel_rfl) (Do.call Try.call19 rfl (cmp_s x8 x10 _ _ HP13) ?_)
    rintro _ w17 ⟨rfl, HQ18⟩
    have H19 : Own w D w17 [] := bk15 _ _ HQ18
    refine ⟨.inr ⟨_, H19⟩, ?_⟩
    show GW _ _ _ _ 1 #[true, true, true, true, true, true, true, true, true, false] _ _ _
    refine GW.take (v := .int .i64 (cmpS x8 x10)) (i := 9) (l' := #[true, true, true, true, true, true, true, true, true, true]) (rs := []) rfl (by kernel_rfl) rfl (NoP.then (NoP.block (NoP.then (NoP.then (NoP.block (NoP.then NoP.base)))))) (by kernel_rfl) (by kernel_rfl) (by kernel_rfl) (by kernel_rfl) (fun _ _ => Yl.assign rfl) ?_
    refine GW.done (by kernel_rfl) ?_
    refine Fin.then ?_
    refine Wp.seq ?_
    refine Wp.region ?_
    refine WL.val (v := .int .i64 (cmpS x8 x10)) rfl (Yl.move rfl) ?_
    refine WL.val (v := .bool (decide (¬ (cmpS x8 x10 = 0)))) rfl (Yl.bool (e := !(decide (cmpS x8 x10 = 0))) (Yl.kern rfl rfl (fun _ => by kernel_rfl)) decide_not.symm) ?_
    refine WL.nil ?_
    refine Fin.then ?_
    by_cases h20 : ¬ (cmpS x8 x10 = 0)
    · skip
      refine Wp.cond1 rfl (decide_eq_true h20) ?_
      refine Wp.seq ?_
      refine Wp.region ?_
      refine WL.val (v := .int .i64 (cmpS x8 x10)) rfl (Yl.move rfl) ?_
      refine WL.val (v := .int .i64 (cmpS x8 x10)) rfl (Yl.assign rfl) ?_
      refine WL.nil ?_
      refine Fin.then ?_
      refine Wp.ret ?_
      refine Fin.blockR ?_
      refine Fin.thenR ?_
      refine Fin.thenR ?_
      refine Fin.blockR ?_
      refine Fin.thenR ?_
      refine Fin.res (res1 rfl rfl) ?_
      exact ⟨by rw [hq, lcmp_at hx9 hx11, if_pos (by omega)], H19⟩
    · skip
      refine Wp.cond0 rfl (decide_eq_false h20) ?_
      refine Wp.skip ?_
      refine Fin.blockN ?_
      refine Fin.then ?_
      refine Wp.region ?_
      refine WL.val (v := .int .i64 ((k + 1 : Nat) : Int)) rfl (Yl.int (e := IntKind.i64.wrap (((k : Nat) : Int) + 1)) (Yl.kern rfl rfl (fun _ => by kernel_rfl)) (by rw [IntWalk.i64_in _ (by omega)]; omega)) ?_
      refine WL.val (v := .int .i64 ((k + 1 : Nat) : Int)) rfl (Yl.move rfl) ?_
      refine WL.nil ?_
      exact Fin.round (k + 1) ⟨rfl, rfl, rfl, rfl, rfl, rfl, rfl, rfl, trivial⟩ ⟨H19, (show (k + 1) ≤ min (List.length xs) (List.length ys) ∧ lcmp xs ys = lcmp (List.drop (k + 1) xs) (List.drop (k + 1) ys) from ⟨by omega, by rw [hq, lcmp_at hx9 hx11, if_neg (by omega)]⟩)⟩ (by show min (List.length xs) (List.length ys) - (k + 1) < min (List.length xs) (List.length ys) - k; omega)
  · skip
    refine Wp.cond0 rfl (decide_eq_false h4) ?_
    refine Wp.exit ?_
    refine Fin.thenX ?_
    refine Fin.thenX ?_
    refine Fin.blockX ?_
    refine Fin.then ?_
    refine Wp.seq ?_
    refine Wp.region ?_
    refine WL.val (v := .slice A (List.length xs) c) rfl (Yl.move rfl) ?_
    refine WL.val (v := .int .i64 ((List.length xs : Nat) : Int)) rfl (Yl.kern rfl rfl (fun _ => by kernel_rfl)) ?_
    refine WL.val (v := .slice B (List.length ys) e) rfl (Yl.move rfl) ?_
    refine WL.val (v := .int .i64 ((List.length ys : Nat) : Int)) rfl (Yl.kern rfl rfl (fun _ => by kernel_rfl)) ?_
    obtain ⟨D21, HP22, ro23, bk24, rr25⟩ := Own.enter (L1 := []) (L2 := []) H2
    refine WL.do rfl (Do.call Try.call20 rfl (cmp_i ((List.length xs : Nat) : Int) ((List.length ys : Nat) : Int) _ _ HP22) ?_)
    rintro _ w26 ⟨rfl, HQ27⟩
    have H28 : Own w D w26 [] := bk24 _ _ HQ27
    refine WL.val (v := .int .i64 (cmpI ((List.length xs : Nat) : Int) ((List.length ys : Nat) : Int))) rfl (Yl.assign rfl) ?_
    refine WL.nil ?_
    refine Fin.then ?_
    refine Wp.ret ?_
    refine Fin.res (res1 rfl rfl) ?_
    exact ⟨by rw [hq, lcmp_end (by omega)], H28⟩

theorem jE_ok {ls : List (List UInt8)} (h : (jE ls).2 = 0) : (jE ls).1 = jn ls ∧ List.length (jn ls) ≤ 12 ∧ 1 ≤ List.length ls ∧ List.length ls ≤ 4 := by
  unfold jE at h ⊢
  by_cases h1 : List.length ls < 1 ∨ 4 < List.length ls
  · rw [if_pos h1] at h; cases h
  · rw [if_neg h1] at h ⊢
    by_cases h2 : 12 < List.length (jn ls)
    · rw [if_pos h2] at h; cases h
    · rw [if_neg h2]; exact ⟨rfl, by omega, by omega, by omega⟩
theorem jn_concat (ls : List (List UInt8)) (p : List UInt8) : jn (ls ++ [p]) = (jn ls ++ esp p ++ [0]) ++ [1] := by simp [jn]
theorem jn_last {ls : List (List UInt8)} (h : 1 ≤ ls.length) : ∃ s, jn ls = s ++ [1] := by
  have h0 : ls ≠ [] := fun e => by subst e; simp at h
  obtain ⟨s, p, rfl⟩ : ∃ s p, ls = s ++ [p] := ⟨ls.dropLast, ls.getLast h0, (List.dropLast_concat_getLast h0).symm⟩
  exact ⟨_, jn_concat s p⟩
def uE (ls : List (List UInt8)) : List UInt8 × List UInt8 := if (jE ls).2 = 0 then (jn ls, List.take (List.length (jn ls) - 1) (jn ls) ++ [2]) else ([], [])

theorem Join_two (A : Option Addr) (c n : Nat) (ls : List (List UInt8)) (w : World) (D : Nat → Prop) (H : Own w D w []) (hn : n = List.length ls) (hx : Ro w D fun w => Rds w 1 A n (List.flatMap eS ls)) (hs : ∀ p ∈ ls, List.length p ≤ 140737488351232) :
    Calls Try.prog 9 #[.slice A n c] w (Ret fun v w' => ((1 ≤ List.length ls ∧ List.length ls ≤ 4 ∧ List.length (jn ls) ≤ 12 ∧ jE ls = (jn ls, 0)) ∧ v = .tuple #[.string ⟨(jn ls).toArray⟩, .int .i64 0] ∧ Own w D w' []) ∨ (∃ e, (e ≠ 0 ∧ jE ls = ([], e)) ∧ v = .tuple #[.string ⟨List.toArray []⟩, .int .i64 e] ∧ Own w D w' [])) :=
  Ret.mono (by subst hn; exact Join_ok A c ls w D H hx hs) fun v w' r => by
    by_cases h : (jE ls).2 = 0
    · obtain ⟨h1, h2, h3, h4⟩ := jE_ok h
      refine .inl ⟨⟨h3, h4, h2, Prod.ext h1 h⟩, ?_, r.2⟩
      rw [r.1, h, h1]
    · refine .inr ⟨(jE ls).2, ⟨h, ?_⟩, ?_, r.2⟩
      all_goals
        have : (jE ls).1 = [] := by
          unfold jE at h ⊢
          by_cases h1 : List.length ls < 1 ∨ 4 < List.length ls
          · rw [if_pos h1]
          · rw [if_neg h1] at h ⊢
            by_cases h2 : 12 < List.length (jn ls)
            · rw [if_pos h2]
            · rw [if_neg h2] at h; exact absurd rfl h
      · exact Prod.ext this rfl
      · rw [r.1, this]

set_option maxRecDepth 100000 in
theorem Under_ok (A : Option Addr) (c : Nat) (ls : List (List UInt8)) (w : World) (D : Nat → Prop) (H : Own w D w []) (hx : Ro w D fun w => Rds w 1 A (List.length ls) (List.flatMap eS ls)) (hs : ∀ p ∈ ls, List.length p ≤ 140737488351232) :
    Calls Try.prog 11 #[.slice A (List.length ls) c] w (Ret fun v w' => v = .tuple #[.agg #[.string ⟨(uE ls).1.toArray⟩, .string ⟨(uE ls).2.toArray⟩], .int .i64 (jE ls).2] ∧ Own w D w' []) := by
  refine Calls.body (args := [.slice A (List.length ls) c]) Try.func11 rfl rfl rfl ?_
  show Wp _ _ _ [(0, .slice A (List.length ls) c)] _ _
  refine Wp.seq ?_
  refine Wp.region ?_
  refine WL.do rfl (Do.newP (cs := [.string ⟨List.toArray ([])⟩, .string ⟨List.toArray ([])⟩]) (t := 28) H rfl rfl (fun _ => by kernel_rfl) ?_)
  intro g1 w2 H3
  replace H3 : Own w D w2 [blk g1 [.string ⟨List.toArray ([])⟩, .string ⟨List.toArray ([])⟩] 28] := H3
  refine WL.val (v := .int .i64 0) rfl (Yl.assign rfl) ?_
  refine WL.nil ?_
  refine Fin.then ?_
  refine Wp.seq ?_
  refine Wp.region ?_
  refine WL.val (v := .slice A (List.length ls) c) rfl (Yl.move rfl) ?_
  obtain ⟨D4, HP5, ro6, bk7, rr8⟩ := Own.enter (L1 := []) (L2 := [blk g1 [.string ⟨List.toArray ([])⟩, .string ⟨List.toArray ([])⟩] 28]) H3
  refine WL.do rfl (Do.call Try.call9 rfl (Join_two A c (List.length ls) ls _ _ HP5 rfl (ro6 _ hx) hs) ?_)
  rintro _ w9 (⟨qj11, rfl, HQ10⟩ | ⟨e13, qj14, rfl, HQ12⟩)
  · skip
    have H15 : Own w D w9 [blk g1 [.string ⟨List.toArray ([])⟩, .string ⟨List.toArray ([])⟩] 28] := bk7 _ _ HQ10
    refine WL.val (v := .tuple #[.string ⟨List.toArray (jn ls)⟩, .int .i64 0]) rfl (Yl.move rfl) ?_
    refine WL.val (v := .string ⟨List.toArray (jn ls)⟩) rfl (Yl.kern rfl rfl (fun _ => by kernel_rfl)) ?_
    refine WL.val (v := .int .i64 0) rfl (Yl.kern rfl rfl (fun _ => by kernel_rfl)) ?_
    refine WL.val (v := .string ⟨List.toArray (jn ls)⟩) rfl (Yl.assign rfl) ?_
    refine WL.val (v := .int .i64 0) rfl (Yl.assign rfl) ?_
    refine WL.nil ?_
    refine Fin.then ?_
    refine Wp.seq ?_
    refine Wp.seq ?_
    refine Wp.region ?_
    refine WL.val (v := .int .i64 0) rfl (Yl.move rfl) ?_
    refine WL.val (v := .bool false) rfl (Yl.kern rfl rfl (fun _ => by kernel_rfl)) ?_
    refine WL.nil ?_
    refine Fin.then ?_
    refine Wp.cond0 rfl rfl ?_
    refine Wp.skip ?_
    refine Fin.then ?_
    refine Wp.seq ?_
    refine Wp.region ?_
    obtain ⟨js, hjs⟩ := jn_last (ls := ls) (by omega)
    have hjl : List.length (jn ls) = List.length js + 1 := by rw [hjs]; simp
    have hb : (jn ls)[(List.length (jn ls)) - 1]? = some (1 : UInt8) := by rw [hjl, hjs]; simp
    refine WL.val (v := .string ⟨List.toArray (jn ls)⟩) rfl (Yl.move rfl) ?_
    refine WL.val (v := .int .i64 ((List.length (jn ls) : Nat) : Int)) rfl (Yl.kern rfl rfl (fun _ => by kernel_rfl)) ?_
    refine WL.val (v := .int .i64 (((List.length (jn ls)) - 1 : Nat) : Int)) rfl (Yl.int (e := IntKind.i64.wrap (((List.length (jn ls) : Nat) : Int) - 1)) (Yl.kern rfl rfl (fun _ => by kernel_rfl)) (by rw [IntWalk.i64_in _ (by omega)]; omega)) ?_
    refine WL.val (v := .int .i64 (((List.length (jn ls)) - 1 : Nat) : Int)) rfl (Yl.assign rfl) ?_
    refine WL.nil ?_
    refine Fin.then ?_
    refine Wp.seq ?_
    have H17 := H15.drew
    refine Wp.drawn (Keep [12] (fun W => ∃ L', Own w D W ([blk g1 [.string ⟨List.toArray ([])⟩, .string ⟨List.toArray ([])⟩] 28] ++ L'))) (by kernel_rfl) (.inr ⟨_, H17⟩) ?_
    revert H17
    generalize World.drew w9 = w16
    intro H17
    replace H17 : Own w D w16 [blk g1 [.string ⟨List.toArray ([])⟩, .string ⟨List.toArray ([])⟩] 28] := H17
    show GW _ _ _ _ 14 #[false, false, false, false, false, false, false, false, false, false, false, false, false, false] _ _ _
    refine GW.take (v := .string ⟨List.toArray (jn ls)⟩) (i := 0) (l' := #[true, false, false, false, false, false, false, false, false, false, false, false, false, false]) (rs := [[]]) rfl (by kernel_rfl) rfl (NoP.then NoP.base) (by kernel_rfl) (by kernel_rfl) (by kernel_rfl) (by kernel_rfl) (fun _ _ => Yl.move rfl) ?_
    refine GW.take (v := .string ⟨List.toArray (jn ls)⟩) (i := 1) (l' := #[true, true, false, false, false, false, false, false, false, false, false, false, false, false]) (rs := [[]]) rfl (by kernel_rfl) rfl (NoP.then NoP.base) (by kernel_rfl) (by kernel_rfl) (by kernel_rfl) (by kernel_rfl) (fun _ _ => Yl.move rfl) ?_
    refine GW.take (v := .int .i64 (((List.length (jn ls)) - 1 : Nat) : Int)) (i := 2) (l' := #[true, true, true, false, false, false, false, false, false, false, false, false, false, false]) (rs := [[]]) rfl (by kernel_rfl) rfl (NoP.then NoP.base) (by kernel_rfl) (by kernel_rfl) (by kernel_rfl) (by kernel_rfl) (fun _ _ => Yl.move rfl) ?_
    refine GW.take (v := .string ⟨List.toArray (List.take ((List.length (jn ls)) - 1) (jn ls))⟩) (i := 3) (l' := #[true, true, true, true, false, false, false, false, false, false, false, false, false, false]) (rs := [[]]) rfl (by kernel_rfl) rfl (NoP.then NoP.base) (by kernel_rfl) (by kernel_rfl) (by kernel_rfl) (by kernel_rfl) (fun _ _ => Yl.strTo Try.underlying9 rfl rfl (by first | omega | (simp only [List.length_drop, List.length_take, List.length_append, List.length_cons, List.length_nil]; omega))) ?_
    refine GW.take (v := .string ⟨List.toArray (jn ls)⟩) (i := 4) (l' := #[true, true, true, true, true, false, false, false, false, false, false, false, false, false]) (rs := [[]]) rfl (by kernel_rfl) rfl (NoP.then NoP.base) (by kernel_rfl) (by kernel_rfl) (by kernel_rfl) (by kernel_rfl) (fun _ _ => Yl.move rfl) ?_
    refine GW.take (v := .int .i64 (((List.length (jn ls)) - 1 : Nat) : Int)) (i := 5) (l' := #[true, true, true, true, true, true, false, false, false, false, false, false, false, false]) (rs := [[]]) rfl (by kernel_rfl) rfl (NoP.then NoP.base) (by kernel_rfl) (by kernel_rfl) (by kernel_rfl) (by kernel_rfl) (fun _ _ => Yl.move rfl) ?_
    refine GW.take (v := .int .u8 (((1 : UInt8).toNat : Nat) : Int)) (i := 6) (l' := #[true, true, true, true, true, true, true, false, false, false, false, false, false, false]) (rs := [[]]) rfl (by kernel_rfl) rfl (NoP.then NoP.base) (by kernel_rfl) (by kernel_rfl) (by kernel_rfl) (by kernel_rfl) (fun _ _ => Yl.strIndex Try.underlying9 rfl rfl hb) ?_
    refine GW.take (v := .int .u8 ((((1 : UInt8) + (1 : UInt8)).toNat : Nat) : Int)) (i := 7) (l' := #[true, true, true, true, true, true, true, true, false, false, false, false, false, false]) (rs := [[]]) rfl (by kernel_rfl) rfl (NoP.then NoP.base) (by kernel_rfl) (by kernel_rfl) (by kernel_rfl) (by kernel_rfl) (fun _ _ => Yl.int (e := IntKind.u8.wrap ((((1 : UInt8).toNat : Nat) : Int) + 1)) (Yl.kern rfl rfl (fun _ => by kernel_rfl)) (u8_add (1 : UInt8) (1 : UInt8))) ?_
    refine GW.do (i := 8) (l' := #[true, true, true, true, true, true, true, true, true, false, false, false, false, false]) rfl rfl (by kernel_rfl) (by kernel_rfl) (Do.newRow (cs := [.int .u8 ((((1 : UInt8) + (1 : UInt8)).toNat : Nat) : Int)]) (t := 5) (sz := 1) (m := 1) H17 rfl rfl (fun _ => by kernel_rfl) rfl (by decide) ?_)
    intro A19 w20 H21
    replace H21 : Own w D w20 [row A19 1 1 (List.flatMap eB ([((1 : UInt8) + (1 : UInt8))])) 5 1, blk g1 [.string ⟨List.toArray ([])⟩, .string ⟨List.toArray ([])⟩] 28] := H21
    have H22 : Own w D w20 [blk g1 [.string ⟨List.toArray ([])⟩, .string ⟨List.toArray ([])⟩] 28, row A19 1 1 (List.flatMap eB ([((1 : UInt8) + (1 : UInt8))])) 5 1] := H21.pick [1, 0] (by decide) rfl
    refine ⟨.inr ⟨_, H22⟩, ?_⟩
    show GW _ _ _ _ 5 #[true, true, true, true, true, true, true, true, true, false, false, false, false, false] _ _ _
    refine GW.more (Good' := (fun W => ∃ L', Own w D W ([blk g1 [.string ⟨List.toArray ([])⟩, .string ⟨List.toArray ([])⟩] 28, row A19 1 1 (List.flatMap eB ([((1 : UInt8) + (1 : UInt8))])) 5 1] ++ L'))) (fun _ ⟨L', h⟩ => ⟨[row A19 1 1 (List.flatMap eB ([((1 : UInt8) + (1 : UInt8))])) 5 1] ++ L', h⟩) ⟨_, H22⟩ ?_
    refine GW.take (v := .string ⟨List.toArray ([((1 : UInt8) + (1 : UInt8))])⟩) (i := 9) (l' := #[true, true, true, true, true, true, true, true, true, true, false, false, false, false]) (rs := [[]]) rfl (by kernel_rfl) rfl (NoP.then NoP.base) (by kernel_rfl) (by kernel_rfl) (by kernel_rfl) (by kernel_rfl) (fun _ ⟨_, H9⟩ => Yl.toStringE (l := [((1 : UInt8) + (1 : UInt8))]) Try.underlying38 Try.underlying5 Try.underlying9 (H9.rds (i := 1) rfl) rfl) ?_
    refine GW.take (v := .string ⟨List.toArray ((List.take ((List.length (jn ls)) - 1) (jn ls)) ++ ([((1 : UInt8) + (1 : UInt8))]))⟩) (i := 10) (l' := #[true, true, true, true, true, true, true, true, true, true, true, false, false, false]) (rs := [[]]) rfl (by kernel_rfl) rfl (NoP.then NoP.base) (by kernel_rfl) (by kernel_rfl) (by kernel_rfl) (by kernel_rfl) (fun _ _ => Yl.strCat rfl rfl (by first | omega | (simp only [List.length_drop, List.length_take, List.length_append, List.length_cons, List.length_nil]; omega))) ?_
    refine GW.take (v := .agg #[.string ⟨List.toArray (jn ls)⟩, .string ⟨List.toArray ((List.take ((List.length (jn ls)) - 1) (jn ls)) ++ ([((1 : UInt8) + (1 : UInt8))]))⟩]) (i := 11) (l' := #[true, true, true, true, true, true, true, true, true, true, true, true, false, false]) (rs := [[]]) rfl (by kernel_rfl) rfl (NoP.then NoP.base) (by kernel_rfl) (by kernel_rfl) (by kernel_rfl) (by kernel_rfl) (fun _ _ => Yl.kern rfl rfl (fun _ => by kernel_rfl)) ?_
    refine GW.do0 (i := 12) (l' := #[true, true, true, true, true, true, true, true, true, true, true, true, true, false]) rfl (by kernel_rfl) (by kernel_rfl) (Do.store (vs := [.string ⟨List.toArray (jn ls)⟩, .string ⟨List.toArray ((List.take ((List.length (jn ls)) - 1) (jn ls)) ++ ([((1 : UInt8) + (1 : UInt8))]))⟩]) (o := 0) H22 rfl rfl Try.sizeOf28 rfl rfl rfl rfl ?_)
    intro w23 H24
    replace H24 : Own w D w23 [blk g1 [.string ⟨List.toArray (jn ls)⟩, .string ⟨List.toArray ((List.take ((List.length (jn ls)) - 1) (jn ls)) ++ ([((1 : UInt8) + (1 : UInt8))]))⟩] 28, row A19 1 1 (List.flatMap eB ([((1 : UInt8) + (1 : UInt8))])) 5 1] := H24
    refine ⟨.inl rfl, ?_⟩
    show GW _ _ _ _ 1 #[true, true, true, true, true, true, true, true, true, true, true, true, true, false] _ _ _
    refine GW.takeA (v := .int .i64 0) (i := 13) (l' := #[true, true, true, true, true, true, true, true, true, true, true, true, true, true])  rfl (by kernel_rfl) rfl (NoP.then NoP.base) (by kernel_rfl) (by kernel_rfl) (by kernel_rfl) (by kernel_rfl) (fun _ => Yl.assign rfl) ?_
    refine GW.done (by kernel_rfl) ?_
    refine Fin.then ?_
    refine Wp.ret ?_
    refine Fin.res (resN (vs := [.agg #[.string ⟨List.toArray (jn ls)⟩, .string ⟨List.toArray ((List.take ((List.length (jn ls)) - 1) (jn ls)) ++ ([((1 : UInt8) + (1 : UInt8))]))⟩], .int .i64 0]) rfl (ResV.cell rfl (Lds.agg (cs := [.string ⟨List.toArray (jn ls)⟩, .string ⟨List.toArray ((List.take ((List.length (jn ls)) - 1) (jn ls)) ++ ([((1 : UInt8) + (1 : UInt8))]))⟩]) Try.isAgg28 Try.sizeOf28 ((H24.cls (i := 0) rfl).lit (k := 0) (m := 2) rfl)) (ResV.tmp rfl ResV.nil)) (Nat.le_of_ble_eq_true rfl)) ?_
    have H25 : Own w D w23 [] := H24.pick [] (by decide) rfl
    exact ⟨by unfold uE; rw [qj11.2.2.2, if_pos rfl]; first | done | rfl, H25⟩
  · skip
    have H26 : Own w D w9 [blk g1 [.string ⟨List.toArray ([])⟩, .string ⟨List.toArray ([])⟩] 28] := bk7 _ _ HQ12
    refine WL.val (v := .tuple #[.string ⟨List.toArray ([])⟩, .int .i64 e13]) rfl (Yl.move rfl) ?_
    refine WL.val (v := .string ⟨List.toArray ([])⟩) rfl (Yl.kern rfl rfl (fun _ => by kernel_rfl)) ?_
    refine WL.val (v := .int .i64 e13) rfl (Yl.kern rfl rfl (fun _ => by kernel_rfl)) ?_
    refine WL.val (v := .string ⟨List.toArray ([])⟩) rfl (Yl.assign rfl) ?_
    refine WL.val (v := .int .i64 e13) rfl (Yl.assign rfl) ?_
    refine WL.nil ?_
    refine Fin.then ?_
    refine Wp.seq ?_
    refine Wp.seq ?_
    refine Wp.region ?_
    refine WL.val (v := .int .i64 e13) rfl (Yl.move rfl) ?_
    refine WL.val (v := .bool (decide (¬ (e13 = 0)))) rfl (Yl.bool (e := !(decide (e13 = 0))) (Yl.kern rfl rfl (fun _ => by kernel_rfl)) decide_not.symm) ?_
    refine WL.nil ?_
    refine Fin.then ?_
    have hb27 : (decide (¬ (e13 = 0))) = true := (decide_eq_true (by omega))
    refine Wp.cond1 rfl hb27 ?_
    refine Wp.seq ?_
    refine Wp.region ?_
    refine WL.val (v := .agg #[.string ⟨List.toArray ([])⟩, .string ⟨List.toArray ([])⟩]) rfl (Yl.kern rfl rfl (fun _ => by kernel_rfl)) ?_
    refine WL.val (v := .int .i64 e13) rfl (Yl.move rfl) ?_
    refine WL.do0 (Do.store (vs := [.string ⟨List.toArray ([])⟩, .string ⟨List.toArray ([])⟩]) (o := 0) H26 rfl rfl Try.sizeOf28 rfl rfl rfl rfl ?_)
    intro w28 H29
    replace H29 : Own w D w28 [blk g1 [.string ⟨List.toArray ([])⟩, .string ⟨List.toArray ([])⟩] 28] := H29
    refine WL.val (v := .int .i64 e13) rfl (Yl.assign rfl) ?_
    refine WL.nil ?_
    refine Fin.then ?_
    refine Wp.ret ?_
    refine Fin.thenR ?_
    refine Fin.res (resN (vs := [.agg #[.string ⟨List.toArray ([])⟩, .string ⟨List.toArray ([])⟩], .int .i64 e13]) rfl (ResV.cell rfl (Lds.agg (cs := [.string ⟨List.toArray ([])⟩, .string ⟨List.toArray ([])⟩]) Try.isAgg28 Try.sizeOf28 ((H29.cls (i := 0) rfl).lit (k := 0) (m := 2) rfl)) (ResV.tmp rfl ResV.nil)) (Nat.le_of_ble_eq_true rfl)) ?_
    have H30 : Own w D w28 [] := H29.pick [] (by decide) rfl
    exact ⟨by unfold uE; rw [qj14.2, if_neg qj14.1], H30⟩
end Go.Proofs.Yticaheijlapllaa
