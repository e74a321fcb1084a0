/-
  tuple: the laws.
-/
import Derived.Test.YticaheijlapllaaTf
import Derived.Test.YticaheijlapllaaKh
namespace Go.Proofs.Yticaheijlapllaa
open Go.RowKit
set_option linter.unusedVariables false
set_option linter.unusedSectionVars false

theorem Compare_n (A B : Option Addr) (c e : Nat) (xs ys : List (List UInt8)) (w : World) (D : Nat → Prop) (H : Own w D w []) (n m : Nat) (hn : n = List.length xs) (hm : m = List.length ys) (hx : Ro w D fun w => Rds w 1 A n (List.flatMap eS xs)) (hy : Ro w D fun w => Rds w 1 B m (List.flatMap eS ys)) (hl : n ≤ 9223372036854775807) : Calls Try.prog 13 #[.slice A n c, .slice B m e] w (Ret fun v w' => v = .int .i64 (lcmp xs ys) ∧ Own w D w' []) := by
  subst hn hm; exact Compare_ok A B c e xs ys w D H hx hy hl

theorem RCompare_n (A B : Option Addr) (c e : Nat) (xs ys : List (List UInt8)) (w : World) (D : Nat → Prop) (H : Own w D w []) (n m : Nat) (hn : n = List.length xs) (hm : m = List.length ys) (hx : Ro w D fun w => Rds w 1 A n (List.flatMap eS xs)) (hy : Ro w D fun w => Rds w 1 B m (List.flatMap eS ys)) (hl : n ≤ 9223372036854775807) : Calls Try.prog 14 #[.slice A n c, .slice B m e] w (Ret fun v w' => v = .int .i64 (lcmp xs ys) ∧ Own w D w' []) := by
  subst hn hm; exact RCompare_ok A B c e xs ys w D H hx hy hl

theorem same_n (A B : Option Addr) (c e : Nat) (xs ys : List (List UInt8)) (w : World) (D : Nat → Prop) (H : Own w D w []) (n m : Nat) (hn : n = List.length xs) (hm : m = List.length ys) (hx : Ro w D fun w => Rds w 1 A n (List.flatMap eS xs)) (hy : Ro w D fun w => Rds w 1 B m (List.flatMap eS ys)) (hl : n ≤ 9223372036854775807) : Calls Try.prog 17 #[.slice A n c, .slice B m e] w (Ret fun v w' => v = .bool (decide (xs = ys)) ∧ Own w D w' []) := by
  subst hn hm; exact same_ok A B c e xs ys w D H hx hy hl

theorem Parts_is (key : List UInt8) (w : World) (D : Nat → Prop) (H : Own w D w []) : Calls Try.prog 15 #[.string ⟨key.toArray⟩] w (Ret fun v w' => ((List.length key < 1 ∨ 12 < List.length key) ∧ v = .tuple #[.slice none 0 0, .int .i64 20] ∧ Own w D w' []) ∨ ((1 ≤ List.length key ∧ List.length key ≤ 12) ∧ ∃ ps, Is key ps ∧ ∃ A c n, n = List.length ps ∧ v = .tuple #[.slice A n c, .int .i64 0] ∧ Own w D w' [row A n c (List.flatMap eS ps) 9 1]) ∨ ((1 ≤ List.length key ∧ List.length key ≤ 12) ∧ (¬ ∃ ps, Is key ps) ∧ v = .tuple #[.slice none 0 0, .int .i64 11] ∧ Own w D w' [])) :=
  Ret.mono (Parts_raw key w D H) fun v w' r => by
    rcases r with r | ⟨hk, r⟩ | ⟨hk, hno, r⟩
    · exact .inl r
    · exact .inr (.inl ⟨hk, _, pOk_is hk.1 r.1, r.2⟩)
    · exact .inr (.inr ⟨hk, fun ⟨ps, hp⟩ => hno (is_pOk hp), r⟩)

theorem RParts_is (key : List UInt8) (w : World) (D : Nat → Prop) (H : Own w D w []) : Calls Try.prog 16 #[.string ⟨key.toArray⟩] w (Ret fun v w' => ((List.length key < 1 ∨ 12 < List.length key) ∧ v = .tuple #[.slice none 0 0, .int .i64 20] ∧ Own w D w' []) ∨ ((1 ≤ List.length key ∧ List.length key ≤ 12) ∧ ∃ ps, Is key ps ∧ ∃ A c n, n = List.length ps ∧ v = .tuple #[.slice A n c, .int .i64 0] ∧ Own w D w' [row A n c (List.flatMap eS ps) 9 1]) ∨ ((1 ≤ List.length key ∧ List.length key ≤ 12) ∧ (¬ ∃ ps, Is key ps) ∧ v = .tuple #[.slice none 0 0, .int .i64 11] ∧ Own w D w' [])) :=
  Ret.mono (RParts_raw key w D H) fun v w' r => by
    rcases r with r | ⟨hk, r⟩ | ⟨hk, hno, r⟩
    · exact .inl r
    · obtain ⟨out, ho, r⟩ := r; exact .inr (.inl ⟨hk, out, rOk_is ho, r⟩)
    · exact .inr (.inr ⟨hk, fun ⟨ps, hp⟩ => hno ⟨ps, is_rOk hk.2 hp⟩, r⟩)

theorem Join_lit (A : Option Addr) (c n : Nat) (ls : List (List UInt8)) (key : List UInt8) (w : World) (D : Nat → Prop) (H : Own w D w []) (hn : n = List.length ls) (hx : Ro w D fun w => Rds w 1 A n (List.flatMap eS ls)) (hs : ∀ p ∈ ls, List.length p ≤ 140737488351232) (hj : jn ls = key) (hj2 : (1 ≤ List.length ls ∧ List.length ls ≤ 4) ∧ List.length key ≤ 12) :
    Calls Try.prog 9 #[.slice A n c] w (Ret fun v w' => v = .tuple #[.string ⟨key.toArray⟩, .int .i64 0] ∧ Own w D w' []) := by
  subst hn
  refine Ret.mono (Join_ok A c ls w D H hx hs) fun v w' r => ⟨?_, r.2⟩
  have e : jE ls = (key, 0) := by unfold jE; rw [if_neg (by omega), hj, if_neg (by omega)]
  rw [r.1, e]
theorem Parts_lit (key : List UInt8) (ps : List (List UInt8)) (w : World) (D : Nat → Prop) (H : Own w D w []) (hi : Is key ps) (hk : 1 ≤ List.length key ∧ List.length key ≤ 12) :
    Calls Try.prog 15 #[.string ⟨key.toArray⟩] w (Ret fun v w' => ∃ A c, v = .tuple #[.slice A (List.length ps) c, .int .i64 0] ∧ Own w D w' [row A (List.length ps) c (List.flatMap eS ps) 9 1]) :=
  Ret.mono (Parts_is key w D H) fun v w' r => by
    rcases r with r | ⟨_, ps', hi', A, c, n, hn, r⟩ | r
    · have := r.1; omega
    · have e : ps' = ps := jn_inj (hi'.1.trans hi.1.symm)
      subst e hn
      exact ⟨A, c, r⟩
    · exact absurd ⟨_, hi⟩ r.2.1
theorem Parts_not (key : List UInt8) (w : World) (D : Nat → Prop) (H : Own w D w []) (hr : rp [] [] key = some []) (hk : 1 ≤ List.length key ∧ List.length key ≤ 12) :
    Calls Try.prog 15 #[.string ⟨key.toArray⟩] w (Ret fun v w' => v = .tuple #[.slice none 0 0, .int .i64 11] ∧ Own w D w' []) :=
  Ret.mono (Parts_is key w D H) fun v w' r => by
    rcases r with r | ⟨_, ps', hi', _⟩ | r
    · have := r.1; omega
    · have := (is_rOk hk.2 hi').1
      rw [hr] at this
      injection this with this
      have := hi'.2.1
      subst ps'
      simp at this
    · exact r.2.2

set_option maxRecDepth 100000 in
theorem live_ok  (w : World) (D : Nat → Prop) (H : Own w D w [])  :
    Calls Try.prog 8 #[] w (Ret fun v w' => v = .bool true ∧ Own w D w' []) := by
  refine Calls.body (args := []) Try.func8 rfl rfl rfl ?_
  show Wp _ _ _ [] _ _
  refine Wp.seq ?_
  refine Wp.region ?_
  refine WL.val (v := .bool false) rfl (Yl.assign rfl) ?_
  refine WL.nil ?_
  refine Fin.then ?_
  refine Wp.seq ?_
  refine Wp.region ?_
  refine WL.do rfl (Do.newRow (cs := [.string ⟨List.toArray ([97])⟩, .string ⟨List.toArray ([98])⟩]) (t := 9) (sz := 1) (m := 2) H rfl rfl (fun _ => by kernel_rfl) rfl (by decide) ?_)
  intro A1 w2 H3
  replace H3 : Own w D w2 [row A1 2 2 (List.flatMap eS ([([97]), ([98])])) 9 1] := H3
  obtain ⟨D4, HP5, ro6, bk7, rr8⟩ := Own.enter (L1 := []) (L2 := [row A1 2 2 (List.flatMap eS ([([97]), ([98])])) 9 1]) H3
  refine WL.do rfl (Do.call Try.call9 rfl (Join_lit A1 2 2 [[97], [98]] [97, 0, 1, 98, 0, 1] _ _ HP5 rfl (rr8 _ 0 _ rfl row_rds) (by decide) rfl (by decide)) ?_)
  rintro _ w9 ⟨rfl, HQ10⟩
  have H11 : Own w D w9 [row A1 2 2 (List.flatMap eS ([([97]), ([98])])) 9 1] := bk7 _ _ HQ10
  refine WL.val (v := .tuple #[.string ⟨List.toArray ([97, 0, 1, 98, 0, 1])⟩, .int .i64 0]) rfl (Yl.move rfl) ?_
  refine WL.val (v := .string ⟨List.toArray ([97, 0, 1, 98, 0, 1])⟩) rfl (Yl.kern rfl rfl (fun _ => by kernel_rfl)) ?_
  refine WL.val (v := .int .i64 0) rfl (Yl.kern rfl rfl (fun _ => by kernel_rfl)) ?_
  refine WL.val (v := .string ⟨List.toArray ([97, 0, 1, 98, 0, 1])⟩) rfl (Yl.assign rfl) ?_
  refine WL.val (v := .int .i64 0) rfl (Yl.assign rfl) ?_
  refine WL.nil ?_
  refine Fin.then ?_
  refine Wp.seq ?_
  refine Wp.region ?_
  refine WL.do rfl (Do.newRow (cs := [.string ⟨List.toArray ([0])⟩]) (t := 9) (sz := 1) (m := 1) H11 rfl rfl (fun _ => by kernel_rfl) rfl (by decide) ?_)
  intro A12 w13 H14
  replace H14 : Own w D w13 [row A12 1 1 (List.flatMap eS ([([0])])) 9 1, row A1 2 2 (List.flatMap eS ([([97]), ([98])])) 9 1] := H14
  obtain ⟨D15, HP16, ro17, bk18, rr19⟩ := Own.enter (L1 := []) (L2 := [row A12 1 1 (List.flatMap eS ([([0])])) 9 1, row A1 2 2 (List.flatMap eS ([([97]), ([98])])) 9 1]) H14
  refine WL.do rfl (Do.call Try.call9 rfl (Join_lit A12 1 1 [[0]] [0, 255, 0, 1] _ _ HP16 rfl (rr19 _ 0 _ rfl row_rds) (by decide) rfl (by decide)) ?_)
  rintro _ w20 ⟨rfl, HQ21⟩
  have H22 : Own w D w20 [row A12 1 1 (List.flatMap eS ([([0])])) 9 1, row A1 2 2 (List.flatMap eS ([([97]), ([98])])) 9 1] := bk18 _ _ HQ21
  refine WL.val (v := .tuple #[.string ⟨List.toArray ([0, 255, 0, 1])⟩, .int .i64 0]) rfl (Yl.move rfl) ?_
  refine WL.val (v := .string ⟨List.toArray ([0, 255, 0, 1])⟩) rfl (Yl.kern rfl rfl (fun _ => by kernel_rfl)) ?_
  refine WL.val (v := .int .i64 0) rfl (Yl.kern rfl rfl (fun _ => by kernel_rfl)) ?_
  refine WL.val (v := .string ⟨List.toArray ([0, 255, 0, 1])⟩) rfl (Yl.assign rfl) ?_
  refine WL.val (v := .int .i64 0) rfl (Yl.assign rfl) ?_
  refine WL.nil ?_
  refine Fin.then ?_
  refine Wp.seq ?_
  refine Wp.region ?_
  refine WL.val (v := .string ⟨List.toArray ([97, 0, 1, 98, 0, 1])⟩) rfl (Yl.move rfl) ?_
  obtain ⟨D23, HP24, ro25, bk26, rr27⟩ := Own.enter (L1 := []) (L2 := [row A12 1 1 (List.flatMap eS ([([0])])) 9 1, row A1 2 2 (List.flatMap eS ([([97]), ([98])])) 9 1]) H22
  refine WL.do rfl (Do.call Try.call15 rfl (Parts_lit [97, 0, 1, 98, 0, 1] [[97], [98]] _ _ HP24 ⟨by decide, by decide, by decide⟩ (by decide)) ?_)
  rintro _ w28 ⟨A30, c31, rfl, HQ29⟩
  have H32 : Own w D w28 [row A30 2 c31 (List.flatMap eS ([[97], [98]])) 9 1, row A12 1 1 (List.flatMap eS ([([0])])) 9 1, row A1 2 2 (List.flatMap eS ([([97]), ([98])])) 9 1] := bk26 _ _ HQ29
  refine WL.val (v := .tuple #[.slice A30 2 c31, .int .i64 0]) rfl (Yl.move rfl) ?_
  refine WL.val (v := .slice A30 2 c31) rfl (Yl.kern rfl rfl (fun _ => by kernel_rfl)) ?_
  refine WL.val (v := .int .i64 0) rfl (Yl.kern rfl rfl (fun _ => by kernel_rfl)) ?_
  refine WL.val (v := .slice A30 2 c31) rfl (Yl.assign rfl) ?_
  refine WL.val (v := .int .i64 0) rfl (Yl.assign rfl) ?_
  refine WL.nil ?_
  refine Fin.then ?_
  refine Wp.seq ?_
  refine Wp.region ?_
  obtain ⟨D33, HP34, ro35, bk36, rr37⟩ := Own.enter (L1 := []) (L2 := [row A30 2 c31 (List.flatMap eS ([[97], [98]])) 9 1, row A12 1 1 (List.flatMap eS ([([0])])) 9 1, row A1 2 2 (List.flatMap eS ([([97]), ([98])])) 9 1]) H32
  refine WL.do rfl (Do.call Try.call15 rfl (Parts_not [97] _ _ HP34 (by decide) (by decide)) ?_)
  rintro _ w38 ⟨rfl, HQ39⟩
  have H40 : Own w D w38 [row A30 2 c31 (List.flatMap eS ([[97], [98]])) 9 1, row A12 1 1 (List.flatMap eS ([([0])])) 9 1, row A1 2 2 (List.flatMap eS ([([97]), ([98])])) 9 1] := bk36 _ _ HQ39
  refine WL.val (v := .tuple #[.slice none 0 0, .int .i64 11]) rfl (Yl.move rfl) ?_
  refine WL.val (v := .slice none 0 0) rfl (Yl.kern rfl rfl (fun _ => by kernel_rfl)) ?_
  refine WL.val (v := .int .i64 11) rfl (Yl.kern rfl rfl (fun _ => by kernel_rfl)) ?_
  refine WL.val (v := .slice none 0 0) rfl (Yl.assign rfl) ?_
  refine WL.val (v := .int .i64 11) rfl (Yl.assign rfl) ?_
  refine WL.nil ?_
  refine Fin.then ?_
  refine Wp.seq ?_
  refine Wp.region ?_
  refine WL.val (v := .string ⟨List.toArray ([97, 0, 1, 98, 0, 1])⟩) rfl (Yl.move rfl) ?_
  refine WL.val (v := .bool true) rfl (Yl.bool (e := decide (([97, 0, 1, 98, 0, 1]) = ([97, 0, 1, 98, 0, 1]))) (Yl.strEq rfl rfl) (by simp)) ?_
  refine WL.val (v := .bool true) rfl (Yl.move rfl) ?_
  refine WL.valG (v := .int .i64 0) rfl rfl rfl rfl (Yl.move rfl) ?_
  refine WL.valG (v := .bool true) rfl rfl rfl rfl (Yl.kern rfl rfl (fun _ => by kernel_rfl)) ?_
  refine WL.val (v := .bool true) rfl (Yl.pickT rfl rfl rfl) ?_
  refine WL.val (v := .bool true) rfl (Yl.move rfl) ?_
  refine WL.valG (v := .string ⟨List.toArray ([0, 255, 0, 1])⟩) rfl rfl rfl rfl (Yl.move rfl) ?_
  refine WL.valG (v := .bool true) rfl rfl rfl rfl (Yl.bool (e := decide (([0, 255, 0, 1]) = ([0, 255, 0, 1]))) (Yl.strEq rfl rfl) (by simp)) ?_
  refine WL.val (v := .bool true) rfl (Yl.pickT rfl rfl rfl) ?_
  refine WL.val (v := .bool true) rfl (Yl.move rfl) ?_
  refine WL.valG (v := .int .i64 0) rfl rfl rfl rfl (Yl.move rfl) ?_
  refine WL.valG (v := .bool true) rfl rfl rfl rfl (Yl.kern rfl rfl (fun _ => by kernel_rfl)) ?_
  refine WL.val (v := .bool true) rfl (Yl.pickT rfl rfl rfl) ?_
  refine WL.val (v := .bool true) rfl (Yl.move rfl) ?_
  refine WL.valG (v := .slice A30 2 c31) rfl rfl rfl rfl (Yl.move rfl) ?_
  refine WL.doG rfl rfl rfl rfl (Do.newRow (cs := [.string ⟨List.toArray ([97])⟩, .string ⟨List.toArray ([98])⟩]) (t := 9) (sz := 1) (m := 2) H40 rfl rfl (fun _ => by kernel_rfl) rfl (by decide) ?_)
  intro A41 w42 H43
  replace H43 : Own w D w42 [row A41 2 2 (List.flatMap eS ([([97]), ([98])])) 9 1, row A30 2 c31 (List.flatMap eS ([[97], [98]])) 9 1, row A12 1 1 (List.flatMap eS ([([0])])) 9 1, row A1 2 2 (List.flatMap eS ([([97]), ([98])])) 9 1] := H43
  obtain ⟨D44, HP45, ro46, bk47, rr48⟩ := Own.enter (L1 := []) (L2 := [row A41 2 2 (List.flatMap eS ([([97]), ([98])])) 9 1, row A30 2 c31 (List.flatMap eS ([[97], [98]])) 9 1, row A12 1 1 (List.flatMap eS ([([0])])) 9 1, row A1 2 2 (List.flatMap eS ([([97]), ([98])])) 9 1]) H43
  refine WL.doG rfl rfl rfl rfl (Do.call Try.call17 rfl (same_n A30 A41 c31 2 ([[97], [98]]) ([([97]), ([98])]) _ _ HP45 2 2 rfl rfl (rr48 _ 1 _ rfl row_rds) (rr48 _ 0 _ rfl row_rds) (by omega)) ?_)
  rintro _ w49 ⟨rfl, HQ50⟩
  have H51 : Own w D w49 [row A41 2 2 (List.flatMap eS ([([97]), ([98])])) 9 1, row A30 2 c31 (List.flatMap eS ([[97], [98]])) 9 1, row A12 1 1 (List.flatMap eS ([([0])])) 9 1, row A1 2 2 (List.flatMap eS ([([97]), ([98])])) 9 1] := bk47 _ _ HQ50
  refine WL.val (v := .bool true) rfl (Yl.pickT rfl rfl rfl) ?_
  refine WL.val (v := .bool true) rfl (Yl.move rfl) ?_
  refine WL.valG (v := .int .i64 0) rfl rfl rfl rfl (Yl.move rfl) ?_
  refine WL.valG (v := .bool true) rfl rfl rfl rfl (Yl.kern rfl rfl (fun _ => by kernel_rfl)) ?_
  refine WL.val (v := .bool true) rfl (Yl.pickT rfl rfl rfl) ?_
  refine WL.val (v := .bool true) rfl (Yl.move rfl) ?_
  refine WL.valG (v := .int .i64 11) rfl rfl rfl rfl (Yl.move rfl) ?_
  refine WL.valG (v := .bool true) rfl rfl rfl rfl (Yl.kern rfl rfl (fun _ => by kernel_rfl)) ?_
  refine WL.val (v := .bool true) rfl (Yl.pickT rfl rfl rfl) ?_
  refine WL.val (v := .bool true) rfl (Yl.move rfl) ?_
  refine WL.doG rfl rfl rfl rfl (Do.newRow (cs := [.string ⟨List.toArray ([97])⟩]) (t := 9) (sz := 1) (m := 1) H51 rfl rfl (fun _ => by kernel_rfl) rfl (by decide) ?_)
  intro A52 w53 H54
  replace H54 : Own w D w53 [row A52 1 1 (List.flatMap eS ([([97])])) 9 1, row A41 2 2 (List.flatMap eS ([([97]), ([98])])) 9 1, row A30 2 c31 (List.flatMap eS ([[97], [98]])) 9 1, row A12 1 1 (List.flatMap eS ([([0])])) 9 1, row A1 2 2 (List.flatMap eS ([([97]), ([98])])) 9 1] := H54
  refine WL.valG (v := .slice A30 2 c31) rfl rfl rfl rfl (Yl.move rfl) ?_
  obtain ⟨D55, HP56, ro57, bk58, rr59⟩ := Own.enter (L1 := []) (L2 := [row A52 1 1 (List.flatMap eS ([([97])])) 9 1, row A41 2 2 (List.flatMap eS ([([97]), ([98])])) 9 1, row A30 2 c31 (List.flatMap eS ([[97], [98]])) 9 1, row A12 1 1 (List.flatMap eS ([([0])])) 9 1, row A1 2 2 (List.flatMap eS ([([97]), ([98])])) 9 1]) H54
  refine WL.doG rfl rfl rfl rfl (Do.call Try.call13 rfl (Compare_n A52 A30 1 c31 ([([97])]) ([[97], [98]]) _ _ HP56 1 2 rfl rfl (rr59 _ 0 _ rfl row_rds) (rr59 _ 2 _ rfl row_rds) (by omega)) ?_)
  rintro _ w60 ⟨rfl, HQ61⟩
  have H62 : Own w D w60 [row A52 1 1 (List.flatMap eS ([([97])])) 9 1, row A41 2 2 (List.flatMap eS ([([97]), ([98])])) 9 1, row A30 2 c31 (List.flatMap eS ([[97], [98]])) 9 1, row A12 1 1 (List.flatMap eS ([([0])])) 9 1, row A1 2 2 (List.flatMap eS ([([97]), ([98])])) 9 1] := bk58 _ _ HQ61
  refine WL.valG (v := .bool true) rfl rfl rfl rfl (Yl.bool (e := decide ((-1) = (-1))) (Yl.kern rfl rfl (fun _ => by kernel_rfl)) (by simp)) ?_
  refine WL.val (v := .bool true) rfl (Yl.pickT rfl rfl rfl) ?_
  refine WL.val (v := .bool true) rfl (Yl.assign rfl) ?_
  refine WL.nil ?_
  refine Fin.then ?_
  refine Wp.ret ?_
  refine Fin.res (res1 rfl rfl) ?_
  have H63 : Own w D w60 [] := H62.pick [] (by decide) rfl
  exact ⟨rfl, H63⟩

set_option maxRecDepth 100000 in
theorem joins_ok (w : World) (a : Sv (List UInt8)) (ha : SvOk w 1 16 eS (fun s => List.length s ≤ 140737488351232) a) (b : Sv (List UInt8)) (hb : SvOk w 1 16 eS (fun s => List.length s ≤ 140737488351232) b) :
    Calls Try.prog 3 #[.slice a.A (List.length a.ls) a.c, .slice b.A (List.length b.ls) b.c] w (Ret fun v w' => v = .bool true ∧ Own w (fun _ : Nat => False) w' []) := by
  have roa : Ro w (fun _ : Nat => False) fun w' => Rds w' 1 a.A (List.length a.ls) (List.flatMap eS a.ls) := Rds.ro ha.2.2.1 (by decide)
  have lea := ha.1
  have lca := ha.2.1
  have rob : Ro w (fun _ : Nat => False) fun w' => Rds w' 1 b.A (List.length b.ls) (List.flatMap eS b.ls) := Rds.ro hb.2.2.1 (by decide)
  have leb := hb.1
  have lcb := hb.2.1
  have H : Own w (fun _ : Nat => False) w [] := Own.start w
  refine Calls.body (args := [.slice a.A (List.length a.ls) a.c, .slice b.A (List.length b.ls) b.c]) Try.func3 rfl rfl rfl ?_
  show Wp _ _ _ [(0, .slice a.A (List.length a.ls) a.c), (1, .slice b.A (List.length b.ls) b.c)] _ _
  refine Wp.seq ?_
  refine Wp.region ?_
  refine WL.val (v := .bool false) rfl (Yl.assign rfl) ?_
  refine WL.nil ?_
  refine Fin.then ?_
  refine Wp.seq ?_
  refine Wp.region ?_
  obtain ⟨D1, HP2, ro3, bk4, rr5⟩ := Own.enter (L1 := []) (L2 := []) H
  refine WL.do rfl (Do.call Try.call8 rfl (live_ok _ _ HP2) ?_)
  rintro _ w6 ⟨rfl, HQ7⟩
  have H8 : Own w (fun _ : Nat => False) w6 [] := bk4 _ _ HQ7
  refine WL.val (v := .bool true) rfl (Yl.assign rfl) ?_
  refine WL.nil ?_
  refine Fin.then ?_
  refine Wp.seq ?_
  refine Wp.region ?_
  refine WL.val (v := .slice a.A (List.length a.ls) a.c) rfl (Yl.move rfl) ?_
  obtain ⟨D9, HP10, ro11, bk12, rr13⟩ := Own.enter (L1 := []) (L2 := []) H8
  refine WL.do rfl (Do.call Try.call9 rfl (Join_ok a.A a.c a.ls _ _ HP10 (ro11 _ roa) ha.2.2.2) ?_)
  rintro _ w14 ⟨rfl, HQ15⟩
  have H16 : Own w (fun _ : Nat => False) w14 [] := bk12 _ _ HQ15
  refine WL.val (v := .tuple #[.string ⟨List.toArray ((jE a.ls).1)⟩, .int .i64 ((jE a.ls).2)]) rfl (Yl.move rfl) ?_
  refine WL.val (v := .string ⟨List.toArray ((jE a.ls).1)⟩) rfl (Yl.kern rfl rfl (fun _ => by kernel_rfl)) ?_
  refine WL.val (v := .int .i64 ((jE a.ls).2)) rfl (Yl.kern rfl rfl (fun _ => by kernel_rfl)) ?_
  refine WL.val (v := .string ⟨List.toArray ((jE a.ls).1)⟩) rfl (Yl.assign rfl) ?_
  refine WL.val (v := .int .i64 ((jE a.ls).2)) rfl (Yl.assign rfl) ?_
  refine WL.nil ?_
  refine Fin.then ?_
  refine Wp.seq ?_
  refine Wp.region ?_
  refine WL.val (v := .slice a.A (List.length a.ls) a.c) rfl (Yl.move rfl) ?_
  obtain ⟨D17, HP18, ro19, bk20, rr21⟩ := Own.enter (L1 := []) (L2 := []) H16
  refine WL.do rfl (Do.call Try.call10 rfl (RJoin_ok a.A a.c a.ls _ _ HP18 (ro19 _ roa) ha.2.2.2) ?_)
  rintro _ w22 ⟨rfl, HQ23⟩
  have H24 : Own w (fun _ : Nat => False) w22 [] := bk20 _ _ HQ23
  refine WL.val (v := .tuple #[.string ⟨List.toArray ((jE a.ls).1)⟩, .int .i64 ((jE a.ls).2)]) rfl (Yl.move rfl) ?_
  refine WL.val (v := .string ⟨List.toArray ((jE a.ls).1)⟩) rfl (Yl.kern rfl rfl (fun _ => by kernel_rfl)) ?_
  refine WL.val (v := .int .i64 ((jE a.ls).2)) rfl (Yl.kern rfl rfl (fun _ => by kernel_rfl)) ?_
  refine WL.val (v := .string ⟨List.toArray ((jE a.ls).1)⟩) rfl (Yl.assign rfl) ?_
  refine WL.val (v := .int .i64 ((jE a.ls).2)) rfl (Yl.assign rfl) ?_
  refine WL.nil ?_
  refine Fin.then ?_
  refine Wp.seq ?_
  refine Wp.region ?_
  refine WL.val (v := .slice a.A (List.length a.ls) a.c) rfl (Yl.move rfl) ?_
  obtain ⟨D25, HP26, ro27, bk28, rr29⟩ := Own.enter (L1 := []) (L2 := []) H24
  refine WL.do rfl (Do.call Try.call11 rfl (Under_ok a.A a.c a.ls _ _ HP26 (ro27 _ roa) ha.2.2.2) ?_)
  rintro _ w30 ⟨rfl, HQ31⟩
  have H32 : Own w (fun _ : Nat => False) w30 [] := bk28 _ _ HQ31
  refine WL.val (v := .tuple #[.agg #[.string ⟨List.toArray ((uE a.ls).1)⟩, .string ⟨List.toArray ((uE a.ls).2)⟩], .int .i64 ((jE a.ls).2)]) rfl (Yl.move rfl) ?_
  refine WL.val (v := .agg #[.string ⟨List.toArray ((uE a.ls).1)⟩, .string ⟨List.toArray ((uE a.ls).2)⟩]) rfl (Yl.kern rfl rfl (fun _ => by kernel_rfl)) ?_
  refine WL.val (v := .int .i64 ((jE a.ls).2)) rfl (Yl.kern rfl rfl (fun _ => by kernel_rfl)) ?_
  refine WL.do rfl (Do.newP (cs := [.string ⟨List.toArray ([])⟩, .string ⟨List.toArray ([])⟩]) (t := 28) H32 rfl rfl (fun _ => by kernel_rfl) ?_)
  intro g33 w34 H35
  replace H35 : Own w (fun _ : Nat => False) w34 [blk g33 [.string ⟨List.toArray ([])⟩, .string ⟨List.toArray ([])⟩] 28] := H35
  refine WL.do0 (Do.store (vs := [.string ⟨List.toArray ((uE a.ls).1)⟩, .string ⟨List.toArray ((uE a.ls).2)⟩]) (o := 0) H35 rfl rfl Try.sizeOf28 rfl rfl rfl rfl ?_)
  intro w36 H37
  replace H37 : Own w (fun _ : Nat => False) w36 [blk g33 [.string ⟨List.toArray ((uE a.ls).1)⟩, .string ⟨List.toArray ((uE a.ls).2)⟩] 28] := H37
  refine WL.val (v := .int .i64 ((jE a.ls).2)) rfl (Yl.assign rfl) ?_
  refine WL.nil ?_
  refine Fin.then ?_
  refine Wp.seq ?_
  refine Wp.region ?_
  refine WL.val (v := .slice a.A (List.length a.ls) a.c) rfl (Yl.move rfl) ?_
  obtain ⟨D38, HP39, ro40, bk41, rr42⟩ := Own.enter (L1 := []) (L2 := [blk g33 [.string ⟨List.toArray ((uE a.ls).1)⟩, .string ⟨List.toArray ((uE a.ls).2)⟩] 28]) H37
  refine WL.do rfl (Do.call Try.call12 rfl (RUnder_ok a.A a.c a.ls _ _ HP39 (ro40 _ roa) ha.2.2.2) ?_)
  rintro _ w43 ⟨rfl, HQ44⟩
  have H45 : Own w (fun _ : Nat => False) w43 [blk g33 [.string ⟨List.toArray ((uE a.ls).1)⟩, .string ⟨List.toArray ((uE a.ls).2)⟩] 28] := bk41 _ _ HQ44
  refine WL.val (v := .tuple #[.agg #[.string ⟨List.toArray ((uE a.ls).1)⟩, .string ⟨List.toArray ((uE a.ls).2)⟩], .int .i64 ((jE a.ls).2)]) rfl (Yl.move rfl) ?_
  refine WL.val (v := .agg #[.string ⟨List.toArray ((uE a.ls).1)⟩, .string ⟨List.toArray ((uE a.ls).2)⟩]) rfl (Yl.kern rfl rfl (fun _ => by kernel_rfl)) ?_
  refine WL.val (v := .int .i64 ((jE a.ls).2)) rfl (Yl.kern rfl rfl (fun _ => by kernel_rfl)) ?_
  refine WL.do rfl (Do.newP (cs := [.string ⟨List.toArray ([])⟩, .string ⟨List.toArray ([])⟩]) (t := 28) H45 rfl rfl (fun _ => by kernel_rfl) ?_)
  intro g46 w47 H48
  replace H48 : Own w (fun _ : Nat => False) w47 [blk g46 [.string ⟨List.toArray ([])⟩, .string ⟨List.toArray ([])⟩] 28, blk g33 [.string ⟨List.toArray ((uE a.ls).1)⟩, .string ⟨List.toArray ((uE a.ls).2)⟩] 28] := H48
  refine WL.do0 (Do.store (vs := [.string ⟨List.toArray ((uE a.ls).1)⟩, .string ⟨List.toArray ((uE a.ls).2)⟩]) (o := 0) H48 rfl rfl Try.sizeOf28 rfl rfl rfl rfl ?_)
  intro w49 H50
  replace H50 : Own w (fun _ : Nat => False) w49 [blk g46 [.string ⟨List.toArray ((uE a.ls).1)⟩, .string ⟨List.toArray ((uE a.ls).2)⟩] 28, blk g33 [.string ⟨List.toArray ((uE a.ls).1)⟩, .string ⟨List.toArray ((uE a.ls).2)⟩] 28] := H50
  refine WL.val (v := .int .i64 ((jE a.ls).2)) rfl (Yl.assign rfl) ?_
  refine WL.nil ?_
  refine Fin.then ?_
  refine Wp.seq ?_
  refine Wp.region ?_
  refine WL.val (v := .bool true) rfl (Yl.move rfl) ?_
  refine WL.val (v := .bool true) rfl (Yl.move rfl) ?_
  refine WL.valG (v := .string ⟨List.toArray ((jE a.ls).1)⟩) rfl rfl rfl rfl (Yl.move rfl) ?_
  refine WL.valG (v := .string ⟨List.toArray ((jE a.ls).1)⟩) rfl rfl rfl rfl (Yl.move rfl) ?_
  refine WL.valG (v := .bool true) rfl rfl rfl rfl (Yl.bool (e := decide (((jE a.ls).1) = ((jE a.ls).1))) (Yl.strEq rfl rfl) (by simp)) ?_
  refine WL.val (v := .bool true) rfl (Yl.pickT rfl rfl rfl) ?_
  refine WL.val (v := .bool true) rfl (Yl.move rfl) ?_
  refine WL.valG (v := .int .i64 ((jE a.ls).2)) rfl rfl rfl rfl (Yl.move rfl) ?_
  refine WL.valG (v := .int .i64 ((jE a.ls).2)) rfl rfl rfl rfl (Yl.move rfl) ?_
  refine WL.valG (v := .bool true) rfl rfl rfl rfl (Yl.bool (e := decide ((jE a.ls).2 = (jE a.ls).2)) (Yl.kern rfl rfl (fun _ => by kernel_rfl)) (by simp)) ?_
  refine WL.val (v := .bool true) rfl (Yl.pickT rfl rfl rfl) ?_
  refine WL.val (v := .bool true) rfl (Yl.move rfl) ?_
  refine WL.valG (v := .agg #[.string ⟨List.toArray ((uE a.ls).1)⟩, .string ⟨List.toArray ((uE a.ls).2)⟩]) rfl rfl rfl rfl (Yl.load rfl (Lds.agg (cs := [.string ⟨List.toArray ((uE a.ls).1)⟩, .string ⟨List.toArray ((uE a.ls).2)⟩]) Try.isAgg28 Try.sizeOf28 ((H50.cls (i := 1) rfl).lit (k := 0) (m := 2) rfl))) ?_
  refine WL.valG (v := .agg #[.string ⟨List.toArray ((uE a.ls).1)⟩, .string ⟨List.toArray ((uE a.ls).2)⟩]) rfl rfl rfl rfl (Yl.load rfl (Lds.agg (cs := [.string ⟨List.toArray ((uE a.ls).1)⟩, .string ⟨List.toArray ((uE a.ls).2)⟩]) Try.isAgg28 Try.sizeOf28 ((H50.cls (i := 0) rfl).lit (k := 0) (m := 2) rfl))) ?_
  refine WL.valG (v := .bool true) rfl rfl rfl rfl (Yl.bool (e := decide ((((uE a.ls).1) = ((uE a.ls).1)) ∧ (((uE a.ls).2) = ((uE a.ls).2)))) (Yl.eqAgg rfl rfl (by kernel_rfl) rfl (Eqv.struct Try.underlying28 (by kernel_rfl) (EqF.dec (EqF.cons (u := .string ⟨List.toArray ((uE a.ls).1)⟩) (v := .string ⟨List.toArray ((uE a.ls).1)⟩) (by decide) (fun _ => by kernel_rfl) (fun _ => by kernel_rfl) (Eqv.string Try.underlying9) (EqF.cons (u := .string ⟨List.toArray ((uE a.ls).2)⟩) (v := .string ⟨List.toArray ((uE a.ls).2)⟩) (by decide) (fun _ => by kernel_rfl) (fun _ => by kernel_rfl) (Eqv.string Try.underlying9) (EqF.nil.up (Nat.zero_le _)))) ((congrArg (decide (((uE a.ls).1) = ((uE a.ls).1)) && ·) and_dec1).trans and_dec)))) (by simp)) ?_
  refine WL.val (v := .bool true) rfl (Yl.pickT rfl rfl rfl) ?_
  refine WL.val (v := .bool true) rfl (Yl.move rfl) ?_
  refine WL.valG (v := .int .i64 ((jE a.ls).2)) rfl rfl rfl rfl (Yl.move rfl) ?_
  refine WL.valG (v := .int .i64 ((jE a.ls).2)) rfl rfl rfl rfl (Yl.move rfl) ?_
  refine WL.valG (v := .bool true) rfl rfl rfl rfl (Yl.bool (e := decide ((jE a.ls).2 = (jE a.ls).2)) (Yl.kern rfl rfl (fun _ => by kernel_rfl)) (by simp)) ?_
  refine WL.val (v := .bool true) rfl (Yl.pickT rfl rfl rfl) ?_
  refine WL.val (v := .bool true) rfl (Yl.move rfl) ?_
  refine WL.valG (v := .slice a.A (List.length a.ls) a.c) rfl rfl rfl rfl (Yl.move rfl) ?_
  refine WL.valG (v := .slice b.A (List.length b.ls) b.c) rfl rfl rfl rfl (Yl.move rfl) ?_
  obtain ⟨D51, HP52, ro53, bk54, rr55⟩ := Own.enter (L1 := []) (L2 := [blk g46 [.string ⟨List.toArray ((uE a.ls).1)⟩, .string ⟨List.toArray ((uE a.ls).2)⟩] 28, blk g33 [.string ⟨List.toArray ((uE a.ls).1)⟩, .string ⟨List.toArray ((uE a.ls).2)⟩] 28]) H50
  refine WL.doG rfl rfl rfl rfl (Do.call Try.call13 rfl (Compare_n a.A b.A a.c b.c a.ls b.ls _ _ HP52 (List.length a.ls) (List.length b.ls) rfl rfl (ro53 _ roa) (ro53 _ rob) (by omega)) ?_)
  rintro _ w56 ⟨rfl, HQ57⟩
  have H58 : Own w (fun _ : Nat => False) w56 [blk g46 [.string ⟨List.toArray ((uE a.ls).1)⟩, .string ⟨List.toArray ((uE a.ls).2)⟩] 28, blk g33 [.string ⟨List.toArray ((uE a.ls).1)⟩, .string ⟨List.toArray ((uE a.ls).2)⟩] 28] := bk54 _ _ HQ57
  refine WL.valG (v := .slice a.A (List.length a.ls) a.c) rfl rfl rfl rfl (Yl.move rfl) ?_
  refine WL.valG (v := .slice b.A (List.length b.ls) b.c) rfl rfl rfl rfl (Yl.move rfl) ?_
  obtain ⟨D59, HP60, ro61, bk62, rr63⟩ := Own.enter (L1 := []) (L2 := [blk g46 [.string ⟨List.toArray ((uE a.ls).1)⟩, .string ⟨List.toArray ((uE a.ls).2)⟩] 28, blk g33 [.string ⟨List.toArray ((uE a.ls).1)⟩, .string ⟨List.toArray ((uE a.ls).2)⟩] 28]) H58
  refine WL.doG rfl rfl rfl rfl (Do.call Try.call14 rfl (RCompare_n a.A b.A a.c b.c a.ls b.ls _ _ HP60 (List.length a.ls) (List.length b.ls) rfl rfl (ro61 _ roa) (ro61 _ rob) (by omega)) ?_)
  rintro _ w64 ⟨rfl, HQ65⟩
  have H66 : Own w (fun _ : Nat => False) w64 [blk g46 [.string ⟨List.toArray ((uE a.ls).1)⟩, .string ⟨List.toArray ((uE a.ls).2)⟩] 28, blk g33 [.string ⟨List.toArray ((uE a.ls).1)⟩, .string ⟨List.toArray ((uE a.ls).2)⟩] 28] := bk62 _ _ HQ65
  refine WL.valG (v := .bool true) rfl rfl rfl rfl (Yl.bool (e := decide (lcmp a.ls b.ls = lcmp a.ls b.ls)) (Yl.kern rfl rfl (fun _ => by kernel_rfl)) (by simp)) ?_
  refine WL.val (v := .bool true) rfl (Yl.pickT rfl rfl rfl) ?_
  refine WL.val (v := .bool true) rfl (Yl.assign rfl) ?_
  refine WL.nil ?_
  refine Fin.then ?_
  refine Wp.ret ?_
  refine Fin.res (res1 rfl rfl) ?_
  have H67 : Own w (fun _ : Nat => False) w64 [] := H66.pick [] (by decide) rfl
  exact ⟨rfl, H67⟩

theorem W_TupleJoins (w : World) (a : Sv (List UInt8)) (ha : SvOk w 1 16 eS (fun s => List.length s ≤ 140737488351232) a) (b : Sv (List UInt8)) (hb : SvOk w 1 16 eS (fun s => List.length s ≤ 140737488351232) b) :
    Calls Try.prog 3 #[.slice a.A (List.length a.ls) a.c, .slice b.A (List.length b.ls) b.c] w fun e w' => e = .returned (.bool true) ∧ Below w.heap.size w w' :=
  (joins_ok w a ha b hb).mono fun e w' ⟨v, he, hv, H⟩ => ⟨by rw [he, hv], H.below⟩

set_option maxRecDepth 100000 in
theorem parts_ok (w : World) (key : List UInt8) (hkey : List.length key ≤ 140737488351232) :
    Calls Try.prog 4 #[.string ⟨List.toArray key⟩] w (Ret fun v w' => v = .bool true ∧ Own w (fun _ : Nat => False) w' []) := by
  have H : Own w (fun _ : Nat => False) w [] := Own.start w
  refine Calls.body (args := [.string ⟨List.toArray key⟩]) Try.func4 rfl rfl rfl ?_
  show Wp _ _ _ [(0, .string ⟨List.toArray key⟩)] _ _
  refine Wp.seq ?_
  refine Wp.region ?_
  refine WL.val (v := .bool false) rfl (Yl.assign rfl) ?_
  refine WL.nil ?_
  refine Fin.then ?_
  refine Wp.seq ?_
  refine Wp.region ?_
  obtain ⟨D1, HP2, ro3, bk4, rr5⟩ := Own.enter (L1 := []) (L2 := []) H
  refine WL.do rfl (Do.call Try.call8 rfl (live_ok _ _ HP2) ?_)
  rintro _ w6 ⟨rfl, HQ7⟩
  have H8 : Own w (fun _ : Nat => False) w6 [] := bk4 _ _ HQ7
  refine WL.val (v := .bool true) rfl (Yl.assign rfl) ?_
  refine WL.nil ?_
  refine Fin.then ?_
  refine Wp.seq ?_
  refine Wp.seq ?_
  refine Wp.region ?_
  refine WL.val (v := .int .i64 0) rfl (Yl.move rfl) ?_
  refine WL.nil ?_
  refine Fin.then ?_
  refine Wp.block ?_
  have H9 : Own w (fun _ : Nat => False) w6 [] := H8.pick [] (by decide) rfl
  refine Wp.loop (ι := Nat) (fun i => [(10, .int .i64 ((i : Nat) : Int)), (3, .bool true), (9, .bool true), (0, .string ⟨List.toArray key⟩)]) (fun (i : Nat) w' => Own w (fun _ : Nat => False) w' [] ∧ (i ≤ 2)) (fun i => 2 - i) 0 ⟨rfl, rfl, rfl, rfl, trivial⟩ ⟨H9, (show 0 ≤ 2 from (by omega))⟩ ?_
  rintro k w10 ⟨H11, hf12⟩
  show Wp _ _ _ [(10, .int .i64 ((k : Nat) : Int)), (3, .bool true), (9, .bool true), (0, .string ⟨List.toArray key⟩)] _ _
  replace H11 : Own w (fun _ : Nat => False) w10 [] := H11
  replace hf12 : k ≤ 2 := hf12
  have hk2 := hf12
  refine Wp.seq ?_
  refine Wp.region ?_
  refine WL.val (v := .bool (decide (((k : Nat) : Int) < 2))) rfl (Yl.kern rfl rfl (fun _ => by kernel_rfl)) ?_
  refine WL.nil ?_
  refine Fin.then ?_
  refine Wp.seq ?_
  by_cases h13 : ((k : Nat) : Int) < 2
  · skip
    refine Wp.cond1 rfl (decide_eq_true h13) ?_
    refine Wp.skip ?_
    refine Fin.then ?_
    refine Wp.seq ?_
    refine Wp.block ?_
    refine Wp.seq ?_
    refine Wp.region ?_
    refine WL.val (v := .string ⟨List.toArray key⟩) rfl (Yl.move rfl) ?_
    obtain ⟨D14, HP15, ro16, bk17, rr18⟩ := Own.enter (L1 := []) (L2 := []) H11
    refine WL.do rfl (Do.call Try.call15 rfl (Parts_is key _ _ HP15) ?_)
    rintro _ w19 (⟨qk21, rfl, HQ20⟩ | ⟨qk23, ps24, qi25, A26, c27, n28, qn29, rfl, HQ22⟩ | ⟨qk31, qi32, rfl, HQ30⟩)
    · skip
      have H33 : Own w (fun _ : Nat => False) w19 [] := bk17 _ _ HQ20
      refine WL.val (v := .tuple #[.slice none 0 0, .int .i64 20]) rfl (Yl.move rfl) ?_
      refine WL.val (v := .slice none 0 0) rfl (Yl.kern rfl rfl (fun _ => by kernel_rfl)) ?_
      refine WL.val (v := .int .i64 20) rfl (Yl.kern rfl rfl (fun _ => by kernel_rfl)) ?_
      refine WL.val (v := .slice none 0 0) rfl (Yl.assign rfl) ?_
      refine WL.val (v := .int .i64 20) rfl (Yl.assign rfl) ?_
      refine WL.nil ?_
      refine Fin.then ?_
      refine Wp.seq ?_
      refine Wp.region ?_
      refine WL.val (v := .string ⟨List.toArray key⟩) rfl (Yl.move rfl) ?_
      obtain ⟨D34, HP35, ro36, bk37, rr38⟩ := Own.enter (L1 := []) (L2 := []) H33
      refine WL.do rfl (Do.call Try.call16 rfl (RParts_is key _ _ HP35) ?_)
      rintro _ w39 (⟨qk41, rfl, HQ40⟩ | ⟨qk43, ps44, qi45, A46, c47, n48, qn49, rfl, HQ42⟩ | ⟨qk51, qi52, rfl, HQ50⟩)
      · skip
        have H53 : Own w (fun _ : Nat => False) w39 [] := bk37 _ _ HQ40
        refine WL.val (v := .tuple #[.slice none 0 0, .int .i64 20]) rfl (Yl.move rfl) ?_
        refine WL.val (v := .slice none 0 0) rfl (Yl.kern rfl rfl (fun _ => by kernel_rfl)) ?_
        refine WL.val (v := .int .i64 20) rfl (Yl.kern rfl rfl (fun _ => by kernel_rfl)) ?_
        refine WL.val (v := .slice none 0 0) rfl (Yl.assign rfl) ?_
        refine WL.val (v := .int .i64 20) rfl (Yl.assign rfl) ?_
        refine WL.nil ?_
        refine Fin.then ?_
        refine Wp.seq ?_
        refine Wp.seq ?_
        refine Wp.region ?_
        refine WL.val (v := .int .i64 20) rfl (Yl.move rfl) ?_
        refine WL.val (v := .int .i64 20) rfl (Yl.move rfl) ?_
        refine WL.val (v := .bool false) rfl (Yl.kern rfl rfl (fun _ => by kernel_rfl)) ?_
        refine WL.val (v := .bool false) rfl (Yl.move rfl) ?_
        refine WL.valG (v := .slice none 0 0) rfl rfl rfl rfl (Yl.move rfl) ?_
        refine WL.valG (v := .slice none 0 0) rfl rfl rfl rfl (Yl.move rfl) ?_
        obtain ⟨D54, HP55, ro56, bk57, rr58⟩ := Own.enter (L1 := []) (L2 := []) H53
        refine WL.doG rfl rfl rfl rfl (Do.call Try.call17 rfl (same_n none none 0 0 ([]) ([]) _ _ HP55 0 0 rfl rfl (fun _ _ => Rds.nil _ _ _) (fun _ _ => Rds.nil _ _ _) (by omega)) ?_)
        rintro _ w59 ⟨rfl, HQ60⟩
        have H61 : Own w (fun _ : Nat => False) w59 [] := bk57 _ _ HQ60
        refine WL.valG (v := .bool false) rfl rfl rfl rfl (Yl.kern rfl rfl (fun _ => by kernel_rfl)) ?_
        refine WL.val (v := .bool false) rfl (Yl.pickF rfl rfl rfl) ?_
        refine WL.nil ?_
        refine Fin.then ?_
        refine Wp.cond0 rfl rfl ?_
        refine Wp.skip ?_
        refine Fin.then ?_
        refine Wp.seq ?_
        refine Wp.region ?_
        refine WL.val (v := .slice none 0 0) rfl (Yl.move rfl) ?_
        refine WL.val (v := .int .i64 0) rfl (Yl.kern rfl rfl (fun _ => by kernel_rfl)) ?_
        refine WL.val (v := .int .i64 0) rfl (Yl.move rfl) ?_
        refine WL.nil ?_
        refine Fin.then ?_
        refine Wp.block ?_
        refine Wp.loop (ι := Nat) (fun i => [(33, .int .i64 ((i : Nat) : Int)), (32, .int .i64 0), (31, .slice none 0 0), (30, .bool false), (29, .bool false), (28, .bool true), (27, .slice none 0 0), (26, .slice none 0 0), (25, .bool false), (24, .bool false), (23, .int .i64 20), (22, .int .i64 20), (7, .int .i64 20), (6, .slice none 0 0), (21, .int .i64 20), (20, .slice none 0 0), (17, .tuple #[.slice none 0 0, .int .i64 20]), (19, .tuple #[.slice none 0 0, .int .i64 20]), (18, .string ⟨List.toArray key⟩), (5, .int .i64 20), (4, .slice none 0 0), (16, .int .i64 20), (15, .slice none 0 0), (12, .tuple #[.slice none 0 0, .int .i64 20]), (14, .tuple #[.slice none 0 0, .int .i64 20]), (13, .string ⟨List.toArray key⟩), (11, .bool (decide (((k : Nat) : Int) < 2))), (10, .int .i64 ((k : Nat) : Int)), (3, .bool true), (9, .bool true), (0, .string ⟨List.toArray key⟩)]) (fun (i : Nat) w' => Own w (fun _ : Nat => False) w' [] ∧ (True)) (fun i => 0 - i) 0 ⟨rfl, rfl, rfl, rfl, rfl, rfl, rfl, rfl, rfl, rfl, rfl, rfl, rfl, rfl, rfl, rfl, rfl, rfl, rfl, rfl, rfl, rfl, rfl, rfl, rfl, rfl, rfl, rfl, rfl, rfl, rfl, trivial⟩ ⟨H61, trivial⟩ ?_
        rintro j w62 ⟨H63, hf64⟩
        show Wp _ _ _ [(33, .int .i64 ((j : Nat) : Int)), (32, .int .i64 0), (31, .slice none 0 0), (30, .bool false), (29, .bool false), (28, .bool true), (27, .slice none 0 0), (26, .slice none 0 0), (25, .bool false), (24, .bool false), (23, .int .i64 20), (22, .int .i64 20), (7, .int .i64 20), (6, .slice none 0 0), (21, .int .i64 20), (20, .slice none 0 0), (17, .tuple #[.slice none 0 0, .int .i64 20]), (19, .tuple #[.slice none 0 0, .int .i64 20]), (18, .string ⟨List.toArray key⟩), (5, .int .i64 20), (4, .slice none 0 0), (16, .int .i64 20), (15, .slice none 0 0), (12, .tuple #[.slice none 0 0, .int .i64 20]), (14, .tuple #[.slice none 0 0, .int .i64 20]), (13, .string ⟨List.toArray key⟩), (11, .bool (decide (((k : Nat) : Int) < 2))), (10, .int .i64 ((k : Nat) : Int)), (3, .bool true), (9, .bool true), (0, .string ⟨List.toArray key⟩)] _ _
        replace H63 : Own w (fun _ : Nat => False) w62 [] := H63
        clear hf64
        refine Wp.seq ?_
        refine Wp.region ?_
        refine WL.val (v := .bool (decide (((j : Nat) : Int) < 0))) rfl (Yl.kern rfl rfl (fun _ => by kernel_rfl)) ?_
        refine WL.nil ?_
        refine Fin.then ?_
        refine Wp.seq ?_
        have hb65 : (decide (((j : Nat) : Int) < 0)) = false := (decide_eq_false (by omega))
        refine Wp.cond0 rfl hb65 ?_
        refine Wp.exit ?_
        refine Fin.thenX ?_
        refine Fin.thenX ?_
        refine Fin.blockX ?_
        refine Fin.blockN ?_
        refine Fin.then ?_
        refine Wp.region ?_
        refine WL.val (v := .int .i64 ((k + 1 : Nat) : Int)) rfl (Yl.int (e := IntKind.i64.wrap (((k : Nat) : Int) + 1)) (Yl.kern rfl rfl (fun _ => by kernel_rfl)) (by rw [IntWalk.i64_in _ (by omega)]; omega)) ?_
        refine WL.val (v := .int .i64 ((k + 1 : Nat) : Int)) rfl (Yl.move rfl) ?_
        refine WL.nil ?_
        have H66 : Own w (fun _ : Nat => False) w62 [] := H63.pick [] (by decide) rfl
        exact Fin.round (k + 1) ⟨rfl, rfl, rfl, rfl, trivial⟩ ⟨H66, (show (k + 1) ≤ 2 from (by omega))⟩ (by show 2 - (k + 1) < 2 - k; omega)
      · skip
        have H67 : Own w (fun _ : Nat => False) w39 [row A46 n48 c47 (List.flatMap eS ps44) 9 1] := bk37 _ _ HQ42
        have bn48 := rowb (H67.rowLe (i := 0) rfl)
        exfalso; omega
      · skip
        have H68 : Own w (fun _ : Nat => False) w39 [] := bk37 _ _ HQ50
        exfalso; omega
    · skip
      have H69 : Own w (fun _ : Nat => False) w19 [row A26 n28 c27 (List.flatMap eS ps24) 9 1] := bk17 _ _ HQ22
      have bn28 := rowb (H69.rowLe (i := 0) rfl)
      refine WL.val (v := .tuple #[.slice A26 n28 c27, .int .i64 0]) rfl (Yl.move rfl) ?_
      refine WL.val (v := .slice A26 n28 c27) rfl (Yl.kern rfl rfl (fun _ => by kernel_rfl)) ?_
      refine WL.val (v := .int .i64 0) rfl (Yl.kern rfl rfl (fun _ => by kernel_rfl)) ?_
      refine WL.val (v := .slice A26 n28 c27) rfl (Yl.assign rfl) ?_
      refine WL.val (v := .int .i64 0) rfl (Yl.assign rfl) ?_
      refine WL.nil ?_
      refine Fin.then ?_
      refine Wp.seq ?_
      refine Wp.region ?_
      refine WL.val (v := .string ⟨List.toArray key⟩) rfl (Yl.move rfl) ?_
      obtain ⟨D70, HP71, ro72, bk73, rr74⟩ := Own.enter (L1 := []) (L2 := [row A26 n28 c27 (List.flatMap eS ps24) 9 1]) H69
      refine WL.do rfl (Do.call Try.call16 rfl (RParts_is key _ _ HP71) ?_)
      rintro _ w75 (⟨qk77, rfl, HQ76⟩ | ⟨qk79, ps80, qi81, A82, c83, n84, qn85, rfl, HQ78⟩ | ⟨qk87, qi88, rfl, HQ86⟩)
      · skip
        have H89 : Own w (fun _ : Nat => False) w75 [row A26 n28 c27 (List.flatMap eS ps24) 9 1] := bk73 _ _ HQ76
        exfalso; omega
      · skip
        have H90 : Own w (fun _ : Nat => False) w75 [row A82 n84 c83 (List.flatMap eS ps80) 9 1, row A26 n28 c27 (List.flatMap eS ps24) 9 1] := bk73 _ _ HQ78
        have bn84 := rowb (H90.rowLe (i := 0) rfl)
        refine WL.val (v := .tuple #[.slice A82 n84 c83, .int .i64 0]) rfl (Yl.move rfl) ?_
        refine WL.val (v := .slice A82 n84 c83) rfl (Yl.kern rfl rfl (fun _ => by kernel_rfl)) ?_
        refine WL.val (v := .int .i64 0) rfl (Yl.kern rfl rfl (fun _ => by kernel_rfl)) ?_
        refine WL.val (v := .slice A82 n84 c83) rfl (Yl.assign rfl) ?_
        refine WL.val (v := .int .i64 0) rfl (Yl.assign rfl) ?_
        refine WL.nil ?_
        refine Fin.then ?_
        refine Wp.seq ?_
        refine Wp.seq ?_
        refine Wp.region ?_
        refine WL.val (v := .int .i64 0) rfl (Yl.move rfl) ?_
        refine WL.val (v := .int .i64 0) rfl (Yl.move rfl) ?_
        refine WL.val (v := .bool false) rfl (Yl.kern rfl rfl (fun _ => by kernel_rfl)) ?_
        refine WL.val (v := .bool false) rfl (Yl.move rfl) ?_
        refine WL.valG (v := .slice A26 n28 c27) rfl rfl rfl rfl (Yl.move rfl) ?_
        refine WL.valG (v := .slice A82 n84 c83) rfl rfl rfl rfl (Yl.move rfl) ?_
        obtain ⟨D91, HP92, ro93, bk94, rr95⟩ := Own.enter (L1 := []) (L2 := [row A82 n84 c83 (List.flatMap eS ps80) 9 1, row A26 n28 c27 (List.flatMap eS ps24) 9 1]) H90
        refine WL.doG rfl rfl rfl rfl (Do.call Try.call17 rfl (same_n A26 A82 c27 c83 ps24 ps80 _ _ HP92 n28 n84 (rds_len eS_len (by decide) (H90.rds (i := 1) rfl)) (rds_len eS_len (by decide) (H90.rds (i := 0) rfl)) (rr95 _ 1 _ rfl row_rds) (rr95 _ 0 _ rfl row_rds) (by omega)) ?_)
        rintro _ w96 ⟨rfl, HQ97⟩
        have H98 : Own w (fun _ : Nat => False) w96 [row A82 n84 c83 (List.flatMap eS ps80) 9 1, row A26 n28 c27 (List.flatMap eS ps24) 9 1] := bk94 _ _ HQ97
        refine WL.valG (v := .bool (decide (¬ (ps24 = ps80)))) rfl rfl rfl rfl (Yl.bool (e := !(decide (ps24 = ps80))) (Yl.kern rfl rfl (fun _ => by kernel_rfl)) decide_not.symm) ?_
        refine WL.val (v := .bool (decide (¬ (ps24 = ps80)))) rfl (Yl.pickF rfl rfl rfl) ?_
        refine WL.nil ?_
        refine Fin.then ?_
        refine Wp.cond0 rfl (decide_eq_false fun h => h (jn_inj (qi25.1.trans qi81.1.symm))) ?_
        refine Wp.skip ?_
        refine Fin.then ?_
        refine Wp.seq ?_
        refine Wp.region ?_
        refine WL.val (v := .slice A26 n28 c27) rfl (Yl.move rfl) ?_
        refine WL.val (v := .int .i64 ((n28 : Nat) : Int)) rfl (Yl.kern rfl rfl (fun _ => by kernel_rfl)) ?_
        refine WL.val (v := .int .i64 0) rfl (Yl.move rfl) ?_
        refine WL.nil ?_
        refine Fin.then ?_
        refine Wp.block ?_
        have H99 : Own w (fun _ : Nat => False) w96 [row A26 n28 c27 (List.flatMap eS ps24) 9 1] := H98.pick [1] (by decide) rfl
        refine Wp.loop (ι := Nat × (List (List UInt8))) (fun i => [(33, .int .i64 ((i.1 : Nat) : Int)), (32, .int .i64 ((n28 : Nat) : Int)), (31, .slice A26 n28 c27), (30, .bool (decide (¬ (ps24 = ps80)))), (29, .bool (decide (¬ (ps24 = ps80)))), (28, .bool (decide (ps24 = ps80))), (27, .slice A82 n84 c83), (26, .slice A26 n28 c27), (25, .bool false), (24, .bool false), (23, .int .i64 0), (22, .int .i64 0), (7, .int .i64 0), (6, .slice A82 n84 c83), (21, .int .i64 0), (20, .slice A82 n84 c83), (17, .tuple #[.slice A82 n84 c83, .int .i64 0]), (19, .tuple #[.slice A82 n84 c83, .int .i64 0]), (18, .string ⟨List.toArray key⟩), (5, .int .i64 0), (4, .slice A26 n28 c27), (16, .int .i64 0), (15, .slice A26 n28 c27), (12, .tuple #[.slice A26 n28 c27, .int .i64 0]), (14, .tuple #[.slice A26 n28 c27, .int .i64 0]), (13, .string ⟨List.toArray key⟩), (11, .bool (decide (((k : Nat) : Int) < 2))), (10, .int .i64 ((k : Nat) : Int)), (3, .bool true), (9, .bool true), (0, .string ⟨List.toArray key⟩)]) (fun (i : Nat × (List (List UInt8))) w' => Own w (fun _ : Nat => False) w' [row A26 n28 c27 (List.flatMap eS i.2) 9 1] ∧ (True)) (fun i => n28 - i.1) (0, ps24) ⟨rfl, rfl, rfl, rfl, rfl, rfl, rfl, rfl, rfl, rfl, rfl, rfl, rfl, rfl, rfl, rfl, rfl, rfl, rfl, rfl, rfl, rfl, rfl, rfl, rfl, rfl, rfl, rfl, rfl, rfl, rfl, trivial⟩ ⟨H99, trivial⟩ ?_
        rintro ⟨j, qs⟩ w100 ⟨H101, hf102⟩
        show Wp _ _ _ [(33, .int .i64 ((j : Nat) : Int)), (32, .int .i64 ((n28 : Nat) : Int)), (31, .slice A26 n28 c27), (30, .bool (decide (¬ (ps24 = ps80)))), (29, .bool (decide (¬ (ps24 = ps80)))), (28, .bool (decide (ps24 = ps80))), (27, .slice A82 n84 c83), (26, .slice A26 n28 c27), (25, .bool false), (24, .bool false), (23, .int .i64 0), (22, .int .i64 0), (7, .int .i64 0), (6, .slice A82 n84 c83), (21, .int .i64 0), (20, .slice A82 n84 c83), (17, .tuple #[.slice A82 n84 c83, .int .i64 0]), (19, .tuple #[.slice A82 n84 c83, .int .i64 0]), (18, .string ⟨List.toArray key⟩), (5, .int .i64 0), (4, .slice A26 n28 c27), (16, .int .i64 0), (15, .slice A26 n28 c27), (12, .tuple #[.slice A26 n28 c27, .int .i64 0]), (14, .tuple #[.slice A26 n28 c27, .int .i64 0]), (13, .string ⟨List.toArray key⟩), (11, .bool (decide (((k : Nat) : Int) < 2))), (10, .int .i64 ((k : Nat) : Int)), (3, .bool true), (9, .bool true), (0, .string ⟨List.toArray key⟩)] _ _
        replace H101 : Own w (fun _ : Nat => False) w100 [row A26 n28 c27 (List.flatMap eS qs) 9 1] := H101
        clear hf102
        refine Wp.seq ?_
        refine Wp.region ?_
        refine WL.val (v := .bool (decide (((j : Nat) : Int) < ((n28 : Nat) : Int)))) rfl (Yl.kern rfl rfl (fun _ => by kernel_rfl)) ?_
        refine WL.nil ?_
        refine Fin.then ?_
        refine Wp.seq ?_
        by_cases h103 : ((j : Nat) : Int) < ((n28 : Nat) : Int)
        · skip
          refine Wp.cond1 rfl (decide_eq_true h103) ?_
          refine Wp.skip ?_
          refine Fin.then ?_
          refine Wp.seq ?_
          refine Wp.block ?_
          refine Wp.seq ?_
          refine Wp.region ?_
          refine WL.val (v := .int .i64 ((j : Nat) : Int)) rfl (Yl.move rfl) ?_
          refine WL.val (v := .int .i64 ((j : Nat) : Int)) rfl (Yl.assign rfl) ?_
          refine WL.nil ?_
          refine Fin.then ?_
          refine Wp.region ?_
          refine WL.val (v := .slice A26 n28 c27) rfl (Yl.move rfl) ?_
          refine WL.val (v := .int .i64 ((j : Nat) : Int)) rfl (Yl.move rfl) ?_
          obtain ⟨x104, hx105⟩ := rds_at (ls := qs) (i := j) eS_len (by decide) (H101.rds (i := 0) rfl) (by first | omega | (simp; done) | (simp; omega))
          refine WL.val (v := .pointer (some ⟨ab A26, ao A26 + j * 1, none⟩)) rfl (Yl.indexAddr (El22) rfl rfl ((H101.rds (i := 0) rfl).addr (i := j) (by omega)) (by omega)) ?_
          refine WL.do0 (Do.storeRow (vs := [.string ⟨List.toArray ([122, 122])⟩]) (o := j * 1 + 0) (q := ao A26 + j * 1) H101 rfl (by omega) rfl Try.sizeOf9 rfl rfl (Nat.le_of_ble_eq_true rfl) (store_fits eS_len hx105 (Nat.le_of_ble_eq_true rfl)) (flat_set (y := ([122, 122])) eS_len rfl (Nat.le_of_ble_eq_true rfl) hx105) ?_)
          intro w106 H107
          replace H107 : Own w (fun _ : Nat => False) w106 [row A26 n28 c27 (List.flatMap eS (List.set qs j ([122, 122]))) 9 1] := H107
          refine WL.nil ?_
          refine Fin.blockN ?_
          refine Fin.then ?_
          refine Wp.region ?_
          refine WL.val (v := .int .i64 ((j + 1 : Nat) : Int)) rfl (Yl.int (e := IntKind.i64.wrap (((j : Nat) : Int) + 1)) (Yl.kern rfl rfl (fun _ => by kernel_rfl)) (by rw [IntWalk.i64_in _ (by omega)]; omega)) ?_
          refine WL.val (v := .int .i64 ((j + 1 : Nat) : Int)) rfl (Yl.move rfl) ?_
          refine WL.nil ?_
          exact Fin.round (j + 1, (List.set qs j ([122, 122]))) ⟨rfl, rfl, rfl, rfl, rfl, rfl, rfl, rfl, rfl, rfl, rfl, rfl, rfl, rfl, rfl, rfl, rfl, rfl, rfl, rfl, rfl, rfl, rfl, rfl, rfl, rfl, rfl, rfl, rfl, rfl, rfl, trivial⟩ ⟨H107, trivial⟩ (by show n28 - (j + 1) < n28 - j; omega)
        · skip
          refine Wp.cond0 rfl (decide_eq_false h103) ?_
          refine Wp.exit ?_
          refine Fin.thenX ?_
          refine Fin.thenX ?_
          refine Fin.blockX ?_
          refine Fin.blockN ?_
          refine Fin.then ?_
          refine Wp.region ?_
          refine WL.val (v := .int .i64 ((k + 1 : Nat) : Int)) rfl (Yl.int (e := IntKind.i64.wrap (((k : Nat) : Int) + 1)) (Yl.kern rfl rfl (fun _ => by kernel_rfl)) (by rw [IntWalk.i64_in _ (by omega)]; omega)) ?_
          refine WL.val (v := .int .i64 ((k + 1 : Nat) : Int)) rfl (Yl.move rfl) ?_
          refine WL.nil ?_
          have H108 : Own w (fun _ : Nat => False) w100 [] := H101.pick [] (by decide) rfl
          exact Fin.round (k + 1) ⟨rfl, rfl, rfl, rfl, trivial⟩ ⟨H108, (show (k + 1) ≤ 2 from (by omega))⟩ (by show 2 - (k + 1) < 2 - k; omega)
      · skip
        have H109 : Own w (fun _ : Nat => False) w75 [row A26 n28 c27 (List.flatMap eS ps24) 9 1] := bk73 _ _ HQ86
        exact absurd ⟨_, qi25⟩ qi88
    · skip
      have H110 : Own w (fun _ : Nat => False) w19 [] := bk17 _ _ HQ30
      refine WL.val (v := .tuple #[.slice none 0 0, .int .i64 11]) rfl (Yl.move rfl) ?_
      refine WL.val (v := .slice none 0 0) rfl (Yl.kern rfl rfl (fun _ => by kernel_rfl)) ?_
      refine WL.val (v := .int .i64 11) rfl (Yl.kern rfl rfl (fun _ => by kernel_rfl)) ?_
      refine WL.val (v := .slice none 0 0) rfl (Yl.assign rfl) ?_
      refine WL.val (v := .int .i64 11) rfl (Yl.assign rfl) ?_
      refine WL.nil ?_
      refine Fin.then ?_
      refine Wp.seq ?_
      refine Wp.region ?_
      refine WL.val (v := .string ⟨List.toArray key⟩) rfl (Yl.move rfl) ?_
      obtain ⟨D111, HP112, ro113, bk114, rr115⟩ := Own.enter (L1 := []) (L2 := []) H110
      refine WL.do rfl (Do.call Try.call16 rfl (RParts_is key _ _ HP112) ?_)
      rintro _ w116 (⟨qk118, rfl, HQ117⟩ | ⟨qk120, ps121, qi122, A123, c124, n125, qn126, rfl, HQ119⟩ | ⟨qk128, qi129, rfl, HQ127⟩)
      · skip
        have H130 : Own w (fun _ : Nat => False) w116 [] := bk114 _ _ HQ117
        exfalso; omega
      · skip
        have H131 : Own w (fun _ : Nat => False) w116 [row A123 n125 c124 (List.flatMap eS ps121) 9 1] := bk114 _ _ HQ119
        have bn125 := rowb (H131.rowLe (i := 0) rfl)
        exact absurd ⟨_, qi122⟩ qi32
      · skip
        have H132 : Own w (fun _ : Nat => False) w116 [] := bk114 _ _ HQ127
        refine WL.val (v := .tuple #[.slice none 0 0, .int .i64 11]) rfl (Yl.move rfl) ?_
        refine WL.val (v := .slice none 0 0) rfl (Yl.kern rfl rfl (fun _ => by kernel_rfl)) ?_
        refine WL.val (v := .int .i64 11) rfl (Yl.kern rfl rfl (fun _ => by kernel_rfl)) ?_
        refine WL.val (v := .slice none 0 0) rfl (Yl.assign rfl) ?_
        refine WL.val (v := .int .i64 11) rfl (Yl.assign rfl) ?_
        refine WL.nil ?_
        refine Fin.then ?_
        refine Wp.seq ?_
        refine Wp.seq ?_
        refine Wp.region ?_
        refine WL.val (v := .int .i64 11) rfl (Yl.move rfl) ?_
        refine WL.val (v := .int .i64 11) rfl (Yl.move rfl) ?_
        refine WL.val (v := .bool false) rfl (Yl.kern rfl rfl (fun _ => by kernel_rfl)) ?_
        refine WL.val (v := .bool false) rfl (Yl.move rfl) ?_
        refine WL.valG (v := .slice none 0 0) rfl rfl rfl rfl (Yl.move rfl) ?_
        refine WL.valG (v := .slice none 0 0) rfl rfl rfl rfl (Yl.move rfl) ?_
        obtain ⟨D133, HP134, ro135, bk136, rr137⟩ := Own.enter (L1 := []) (L2 := []) H132
        refine WL.doG rfl rfl rfl rfl (Do.call Try.call17 rfl (same_n none none 0 0 ([]) ([]) _ _ HP134 0 0 rfl rfl (fun _ _ => Rds.nil _ _ _) (fun _ _ => Rds.nil _ _ _) (by omega)) ?_)
        rintro _ w138 ⟨rfl, HQ139⟩
        have H140 : Own w (fun _ : Nat => False) w138 [] := bk136 _ _ HQ139
        refine WL.valG (v := .bool false) rfl rfl rfl rfl (Yl.kern rfl rfl (fun _ => by kernel_rfl)) ?_
        refine WL.val (v := .bool false) rfl (Yl.pickF rfl rfl rfl) ?_
        refine WL.nil ?_
        refine Fin.then ?_
        refine Wp.cond0 rfl rfl ?_
        refine Wp.skip ?_
        refine Fin.then ?_
        refine Wp.seq ?_
        refine Wp.region ?_
        refine WL.val (v := .slice none 0 0) rfl (Yl.move rfl) ?_
        refine WL.val (v := .int .i64 0) rfl (Yl.kern rfl rfl (fun _ => by kernel_rfl)) ?_
        refine WL.val (v := .int .i64 0) rfl (Yl.move rfl) ?_
        refine WL.nil ?_
        refine Fin.then ?_
        refine Wp.block ?_
        refine Wp.loop (ι := Nat) (fun i => [(33, .int .i64 ((i : Nat) : Int)), (32, .int .i64 0), (31, .slice none 0 0), (30, .bool false), (29, .bool false), (28, .bool true), (27, .slice none 0 0), (26, .slice none 0 0), (25, .bool false), (24, .bool false), (23, .int .i64 11), (22, .int .i64 11), (7, .int .i64 11), (6, .slice none 0 0), (21, .int .i64 11), (20, .slice none 0 0), (17, .tuple #[.slice none 0 0, .int .i64 11]), (19, .tuple #[.slice none 0 0, .int .i64 11]), (18, .string ⟨List.toArray key⟩), (5, .int .i64 11), (4, .slice none 0 0), (16, .int .i64 11), (15, .slice none 0 0), (12, .tuple #[.slice none 0 0, .int .i64 11]), (14, .tuple #[.slice none 0 0, .int .i64 11]), (13, .string ⟨List.toArray key⟩), (11, .bool (decide (((k : Nat) : Int) < 2))), (10, .int .i64 ((k : Nat) : Int)), (3, .bool true), (9, .bool true), (0, .string ⟨List.toArray key⟩)]) (fun (i : Nat) w' => Own w (fun _ : Nat => False) w' [] ∧ (True)) (fun i => 0 - i) 0 ⟨rfl, rfl, rfl, rfl, rfl, rfl, rfl, rfl, rfl, rfl, rfl, rfl, rfl, rfl, rfl, rfl, rfl, rfl, rfl, rfl, rfl, rfl, rfl, rfl, rfl, rfl, rfl, rfl, rfl, rfl, rfl, trivial⟩ ⟨H140, trivial⟩ ?_
        rintro j w141 ⟨H142, hf143⟩
        show Wp _ _ _ [(33, .int .i64 ((j : Nat) : Int)), (32, .int .i64 0), (31, .slice none 0 0), (30, .bool false), (29, .bool false), (28, .bool true), (27, .slice none 0 0), (26, .slice none 0 0), (25, .bool false), (24, .bool false), (23, .int .i64 11), (22, .int .i64 11), (7, .int .i64 11), (6, .slice none 0 0), (21, .int .i64 11), (20, .slice none 0 0), (17, .tuple #[.slice none 0 0, .int .i64 11]), (19, .tuple #[.slice none 0 0, .int .i64 11]), (18, .string ⟨List.toArray key⟩), (5, .int .i64 11), (4, .slice none 0 0), (16, .int .i64 11), (15, .slice none 0 0), (12, .tuple #[.slice none 0 0, .int .i64 11]), (14, .tuple #[.slice none 0 0, .int .i64 11]), (13, .string ⟨List.toArray key⟩), (11, .bool (decide (((k : Nat) : Int) < 2))), (10, .int .i64 ((k : Nat) : Int)), (3, .bool true), (9, .bool true), (0, .string ⟨List.toArray key⟩)] _ _
        replace H142 : Own w (fun _ : Nat => False) w141 [] := H142
        clear hf143
        refine Wp.seq ?_
        refine Wp.region ?_
        refine WL.val (v := .bool (decide (((j : Nat) : Int) < 0))) rfl (Yl.kern rfl rfl (fun _ => by kernel_rfl)) ?_
        refine WL.nil ?_
        refine Fin.then ?_
        refine Wp.seq ?_
        have hb144 : (decide (((j : Nat) : Int) < 0)) = false := (decide_eq_false (by omega))
        refine Wp.cond0 rfl hb144 ?_
        refine Wp.exit ?_
        refine Fin.thenX ?_
        refine Fin.thenX ?_
        refine Fin.blockX ?_
        refine Fin.blockN ?_
        refine Fin.then ?_
        refine Wp.region ?_
        refine WL.val (v := .int .i64 ((k + 1 : Nat) : Int)) rfl (Yl.int (e := IntKind.i64.wrap (((k : Nat) : Int) + 1)) (Yl.kern rfl rfl (fun _ => by kernel_rfl)) (by rw [IntWalk.i64_in _ (by omega)]; omega)) ?_
        refine WL.val (v := .int .i64 ((k + 1 : Nat) : Int)) rfl (Yl.move rfl) ?_
        refine WL.nil ?_
        have H145 : Own w (fun _ : Nat => False) w141 [] := H142.pick [] (by decide) rfl
        exact Fin.round (k + 1) ⟨rfl, rfl, rfl, rfl, trivial⟩ ⟨H145, (show (k + 1) ≤ 2 from (by omega))⟩ (by show 2 - (k + 1) < 2 - k; omega)
  · skip
    refine Wp.cond0 rfl (decide_eq_false h13) ?_
    refine Wp.exit ?_
    refine Fin.thenX ?_
    refine Fin.thenX ?_
    refine Fin.blockX ?_
    refine Fin.then ?_
    refine Wp.seq ?_
    refine Wp.region ?_
    refine WL.val (v := .bool true) rfl (Yl.move rfl) ?_
    refine WL.val (v := .bool true) rfl (Yl.assign rfl) ?_
    refine WL.nil ?_
    refine Fin.then ?_
    refine Wp.ret ?_
    refine Fin.res (res1 rfl rfl) ?_
    have H146 : Own w (fun _ : Nat => False) w10 [] := H11.pick [] (by decide) rfl
    exact ⟨rfl, H146⟩

theorem W_TupleParts (w : World) (key : List UInt8) (hkey : List.length key ≤ 140737488351232) :
    Calls Try.prog 4 #[.string ⟨List.toArray key⟩] w fun e w' => e = .returned (.bool true) ∧ Below w.heap.size w w' :=
  (parts_ok w key hkey).mono fun e w' ⟨v, he, hv, H⟩ => ⟨by rw [he, hv], H.below⟩

theorem lcmp_range (a b : List (List UInt8)) : -1 ≤ lcmp a b ∧ lcmp a b ≤ 1 := by rw [← jn_cmp]; exact cmpS_range _ _
theorem lcmp_anti (a b : List (List UInt8)) : lcmp b a = - lcmp a b := by rw [← jn_cmp, ← jn_cmp]; exact cmpS_anti _ _
theorem lcmp_self (a : List (List UInt8)) : lcmp a a = 0 := by rw [← jn_cmp]; exact cmpS_self _
theorem lcmp_zero (a b : List (List UInt8)) : lcmp a b = 0 ↔ a = b := by rw [← jn_cmp, cmpS_zero]; exact ⟨jn_inj, congrArg _⟩
theorem lcmp_trans {a b c : List (List UInt8)} (h : lcmp a b = lcmp b c) : lcmp a c = lcmp a b := by
  rw [← jn_cmp, ← jn_cmp] at h ⊢; exact cmpS_trans h
theorem lcmp_lt {a b : List (List UInt8)} (h : jn a < jn b) : lcmp a b = -1 := by rw [← jn_cmp]; unfold cmpS; rw [if_pos h]
theorem lcmp_gt {a b : List (List UInt8)} (h1 : ¬ jn a < jn b) (h2 : jn b < jn a) : lcmp a b = 1 := by rw [← jn_cmp]; unfold cmpS; rw [if_neg h1, if_pos h2]
theorem lcmp_eq {a b : List (List UInt8)} (h1 : ¬ jn a < jn b) (h2 : ¬ jn b < jn a) : lcmp a b = 0 := by rw [← jn_cmp]; unfold cmpS; rw [if_neg h1, if_neg h2]

set_option maxRecDepth 100000 in
theorem order_ok (w : World) (a : Sv (List UInt8)) (ha : SvOk w 1 16 eS (fun s => List.length s ≤ 140737488351232) a) (b : Sv (List UInt8)) (hb : SvOk w 1 16 eS (fun s => List.length s ≤ 140737488351232) b) :
    Calls Try.prog 5 #[.slice a.A (List.length a.ls) a.c, .slice b.A (List.length b.ls) b.c] w (Ret fun v w' => v = .bool true ∧ Own w (fun _ : Nat => False) w' []) := by
  have roa : Ro w (fun _ : Nat => False) fun w' => Rds w' 1 a.A (List.length a.ls) (List.flatMap eS a.ls) := Rds.ro ha.2.2.1 (by decide)
  have lea := ha.1
  have lca := ha.2.1
  have rob : Ro w (fun _ : Nat => False) fun w' => Rds w' 1 b.A (List.length b.ls) (List.flatMap eS b.ls) := Rds.ro hb.2.2.1 (by decide)
  have leb := hb.1
  have lcb := hb.2.1
  have H : Own w (fun _ : Nat => False) w [] := Own.start w
  refine Calls.body (args := [.slice a.A (List.length a.ls) a.c, .slice b.A (List.length b.ls) b.c]) Try.func5 rfl rfl rfl ?_
  show Wp _ _ _ [(0, .slice a.A (List.length a.ls) a.c), (1, .slice b.A (List.length b.ls) b.c)] _ _
  refine Wp.seq ?_
  refine Wp.region ?_
  refine WL.val (v := .bool false) rfl (Yl.assign rfl) ?_
  refine WL.nil ?_
  refine Fin.then ?_
  refine Wp.seq ?_
  refine Wp.region ?_
  obtain ⟨D1, HP2, ro3, bk4, rr5⟩ := Own.enter (L1 := []) (L2 := []) H
  refine WL.do rfl (Do.call Try.call8 rfl (live_ok _ _ HP2) ?_)
  rintro _ w6 ⟨rfl, HQ7⟩
  have H8 : Own w (fun _ : Nat => False) w6 [] := bk4 _ _ HQ7
  refine WL.val (v := .bool true) rfl (Yl.assign rfl) ?_
  refine WL.nil ?_
  refine Fin.then ?_
  refine Wp.seq ?_
  refine Wp.region ?_
  refine WL.val (v := .slice a.A (List.length a.ls) a.c) rfl (Yl.move rfl) ?_
  obtain ⟨D9, HP10, ro11, bk12, rr13⟩ := Own.enter (L1 := []) (L2 := []) H8
  refine WL.do rfl (Do.call Try.call9 rfl (Join_two a.A a.c (List.length a.ls) a.ls _ _ HP10 rfl (ro11 _ roa) ha.2.2.2) ?_)
  rintro _ w14 (⟨qj16, rfl, HQ15⟩ | ⟨e18, qj19, rfl, HQ17⟩)
  · skip
    have H20 : Own w (fun _ : Nat => False) w14 [] := bk12 _ _ HQ15
    refine WL.val (v := .tuple #[.string ⟨List.toArray (jn a.ls)⟩, .int .i64 0]) rfl (Yl.move rfl) ?_
    refine WL.val (v := .string ⟨List.toArray (jn a.ls)⟩) rfl (Yl.kern rfl rfl (fun _ => by kernel_rfl)) ?_
    refine WL.val (v := .int .i64 0) rfl (Yl.kern rfl rfl (fun _ => by kernel_rfl)) ?_
    refine WL.val (v := .string ⟨List.toArray (jn a.ls)⟩) rfl (Yl.assign rfl) ?_
    refine WL.val (v := .int .i64 0) rfl (Yl.assign rfl) ?_
    refine WL.nil ?_
    refine Fin.then ?_
    refine Wp.seq ?_
    refine Wp.region ?_
    refine WL.val (v := .slice b.A (List.length b.ls) b.c) rfl (Yl.move rfl) ?_
    obtain ⟨D21, HP22, ro23, bk24, rr25⟩ := Own.enter (L1 := []) (L2 := []) H20
    refine WL.do rfl (Do.call Try.call9 rfl (Join_two b.A b.c (List.length b.ls) b.ls _ _ HP22 rfl (ro23 _ rob) hb.2.2.2) ?_)
    rintro _ w26 (⟨qj28, rfl, HQ27⟩ | ⟨e30, qj31, rfl, HQ29⟩)
    · skip
      have H32 : Own w (fun _ : Nat => False) w26 [] := bk24 _ _ HQ27
      refine WL.val (v := .tuple #[.string ⟨List.toArray (jn b.ls)⟩, .int .i64 0]) rfl (Yl.move rfl) ?_
      refine WL.val (v := .string ⟨List.toArray (jn b.ls)⟩) rfl (Yl.kern rfl rfl (fun _ => by kernel_rfl)) ?_
      refine WL.val (v := .int .i64 0) rfl (Yl.kern rfl rfl (fun _ => by kernel_rfl)) ?_
      refine WL.val (v := .string ⟨List.toArray (jn b.ls)⟩) rfl (Yl.assign rfl) ?_
      refine WL.val (v := .int .i64 0) rfl (Yl.assign rfl) ?_
      refine WL.nil ?_
      refine Fin.then ?_
      refine Wp.seq ?_
      refine Wp.seq ?_
      refine Wp.region ?_
      refine WL.val (v := .int .i64 0) rfl (Yl.move rfl) ?_
      refine WL.val (v := .bool false) rfl (Yl.kern rfl rfl (fun _ => by kernel_rfl)) ?_
      refine WL.val (v := .bool false) rfl (Yl.move rfl) ?_
      refine WL.valG (v := .int .i64 0) rfl rfl rfl rfl (Yl.move rfl) ?_
      refine WL.valG (v := .bool false) rfl rfl rfl rfl (Yl.kern rfl rfl (fun _ => by kernel_rfl)) ?_
      refine WL.val (v := .bool false) rfl (Yl.pickF rfl rfl rfl) ?_
      refine WL.nil ?_
      refine Fin.then ?_
      refine Wp.cond0 rfl rfl ?_
      refine Wp.skip ?_
      refine Fin.then ?_
      refine Wp.seq ?_
      refine Wp.region ?_
      have hjl := jn_len a.ls
      refine WL.val (v := .string ⟨List.toArray (jn a.ls)⟩) rfl (Yl.move rfl) ?_
      obtain ⟨D33, HP34, ro35, bk36, rr37⟩ := Own.enter (L1 := []) (L2 := []) H32
      refine WL.do rfl (Do.call Try.call15 rfl (Parts_is (jn a.ls) _ _ HP34) ?_)
      rintro _ w38 (⟨qk40, rfl, HQ39⟩ | ⟨qk42, ps43, qi44, A45, c46, n47, qn48, rfl, HQ41⟩ | ⟨qk50, qi51, rfl, HQ49⟩)
      · skip
        have H52 : Own w (fun _ : Nat => False) w38 [] := bk36 _ _ HQ39
        exfalso; omega
      · skip
        have H53 : Own w (fun _ : Nat => False) w38 [row A45 n47 c46 (List.flatMap eS ps43) 9 1] := bk36 _ _ HQ41
        have bn47 := rowb (H53.rowLe (i := 0) rfl)
        refine WL.val (v := .tuple #[.slice A45 n47 c46, .int .i64 0]) rfl (Yl.move rfl) ?_
        refine WL.val (v := .slice A45 n47 c46) rfl (Yl.kern rfl rfl (fun _ => by kernel_rfl)) ?_
        refine WL.val (v := .int .i64 0) rfl (Yl.kern rfl rfl (fun _ => by kernel_rfl)) ?_
        refine WL.val (v := .slice A45 n47 c46) rfl (Yl.assign rfl) ?_
        refine WL.val (v := .int .i64 0) rfl (Yl.assign rfl) ?_
        refine WL.nil ?_
        refine Fin.then ?_
        refine Wp.seq ?_
        refine Wp.region ?_
        refine WL.val (v := .int .i64 0) rfl (Yl.assign rfl) ?_
        refine WL.nil ?_
        refine Fin.then ?_
        refine Wp.seq ?_
        refine Wp.seq ?_
        refine Wp.region ?_
        refine WL.val (v := .string ⟨List.toArray (jn a.ls)⟩) rfl (Yl.move rfl) ?_
        refine WL.val (v := .string ⟨List.toArray (jn b.ls)⟩) rfl (Yl.move rfl) ?_
        refine WL.val (v := .bool (decide ((jn a.ls) < (jn b.ls)))) rfl (Yl.bool (e := Op.bytesLess (jn a.ls) (jn b.ls)) (Yl.strLt rfl rfl) (bl_lt _ _)) ?_
        refine WL.nil ?_
        refine Fin.then ?_
        by_cases h54 : (jn a.ls) < (jn b.ls)
        · skip
          refine Wp.cond1 rfl (decide_eq_true h54) ?_
          refine Wp.region ?_
          refine WL.val (v := .int .i64 (-1)) rfl (Yl.assign rfl) ?_
          refine WL.nil ?_
          refine Fin.then ?_
          refine Wp.seq ?_
          refine Wp.seq ?_
          refine Wp.region ?_
          refine WL.val (v := .string ⟨List.toArray (jn a.ls)⟩) rfl (Yl.move rfl) ?_
          refine WL.val (v := .string ⟨List.toArray (jn b.ls)⟩) rfl (Yl.move rfl) ?_
          refine WL.val (v := .bool (decide ((jn b.ls) < (jn a.ls)))) rfl (Yl.bool (e := !(Op.bytesLess (jn a.ls) (jn b.ls) || decide ((jn a.ls) = (jn b.ls)))) (Yl.strGt rfl rfl) (bl_gt _ _)) ?_
          refine WL.nil ?_
          refine Fin.then ?_
          by_cases h55 : (jn b.ls) < (jn a.ls)
          · skip
            exact absurd h55 (by have := h54; grind)
          · skip
            refine Wp.cond0 rfl (decide_eq_false h55) ?_
            refine Wp.skip ?_
            refine Fin.then ?_
            refine Wp.seq ?_
            refine Wp.region ?_
            refine WL.val (v := .bool true) rfl (Yl.move rfl) ?_
            refine WL.val (v := .bool true) rfl (Yl.move rfl) ?_
            refine WL.valG (v := .int .i64 0) rfl rfl rfl rfl (Yl.move rfl) ?_
            refine WL.valG (v := .bool true) rfl rfl rfl rfl (Yl.kern rfl rfl (fun _ => by kernel_rfl)) ?_
            refine WL.val (v := .bool true) rfl (Yl.pickT rfl rfl rfl) ?_
            refine WL.val (v := .bool true) rfl (Yl.move rfl) ?_
            refine WL.valG (v := .slice A45 n47 c46) rfl rfl rfl rfl (Yl.move rfl) ?_
            refine WL.valG (v := .slice a.A (List.length a.ls) a.c) rfl rfl rfl rfl (Yl.move rfl) ?_
            obtain ⟨D56, HP57, ro58, bk59, rr60⟩ := Own.enter (L1 := []) (L2 := [row A45 n47 c46 (List.flatMap eS ps43) 9 1]) H53
            refine WL.doG rfl rfl rfl rfl (Do.call Try.call17 rfl (same_n A45 a.A c46 a.c ps43 a.ls _ _ HP57 n47 (List.length a.ls) (rds_len eS_len (by decide) (H53.rds (i := 0) rfl)) rfl (rr60 _ 0 _ rfl row_rds) (ro58 _ roa) (by omega)) ?_)
            rintro _ w61 ⟨rfl, HQ62⟩
            have H63 : Own w (fun _ : Nat => False) w61 [row A45 n47 c46 (List.flatMap eS ps43) 9 1] := bk59 _ _ HQ62
            refine WL.val (v := .bool (decide (ps43 = a.ls))) rfl (Yl.pickT rfl rfl rfl) ?_
            refine WL.val (v := .bool (decide (ps43 = a.ls))) rfl (Yl.move rfl) ?_
            refine WL.valG (v := .slice a.A (List.length a.ls) a.c) rfl rfl (decide_eq_true (jn_inj qi44.1)) rfl (Yl.move rfl) ?_
            refine WL.valG (v := .slice b.A (List.length b.ls) b.c) rfl rfl (decide_eq_true (jn_inj qi44.1)) rfl (Yl.move rfl) ?_
            obtain ⟨D64, HP65, ro66, bk67, rr68⟩ := Own.enter (L1 := []) (L2 := [row A45 n47 c46 (List.flatMap eS ps43) 9 1]) H63
            refine WL.doG rfl rfl (decide_eq_true (jn_inj qi44.1)) rfl (Do.call Try.call13 rfl (Compare_n a.A b.A a.c b.c a.ls b.ls _ _ HP65 (List.length a.ls) (List.length b.ls) rfl rfl (ro66 _ roa) (ro66 _ rob) (by omega)) ?_)
            rintro _ w69 ⟨rfl, HQ70⟩
            have H71 : Own w (fun _ : Nat => False) w69 [row A45 n47 c46 (List.flatMap eS ps43) 9 1] := bk67 _ _ HQ70
            refine WL.valG (v := .int .i64 (-1)) rfl rfl (decide_eq_true (jn_inj qi44.1)) rfl (Yl.move rfl) ?_
            refine WL.valG (v := .bool (decide (lcmp a.ls b.ls = (-1)))) rfl rfl (decide_eq_true (jn_inj qi44.1)) rfl (Yl.kern rfl rfl (fun _ => by kernel_rfl)) ?_
            refine WL.val (v := .bool (decide (lcmp a.ls b.ls = (-1)))) rfl (Yl.pickT rfl (decide_eq_true (jn_inj qi44.1)) rfl) ?_
            refine WL.val (v := .bool (decide (lcmp a.ls b.ls = (-1)))) rfl (Yl.assign rfl) ?_
            refine WL.nil ?_
            refine Fin.then ?_
            refine Wp.ret ?_
            refine Fin.res (res1 rfl rfl) ?_
            have H72 : Own w (fun _ : Nat => False) w69 [] := H71.pick [] (by decide) rfl
            exact ⟨congrArg Value.bool (decide_eq_true (lcmp_lt h54)), H72⟩
        · skip
          refine Wp.cond0 rfl (decide_eq_false h54) ?_
          refine Wp.skip ?_
          refine Fin.then ?_
          refine Wp.seq ?_
          refine Wp.seq ?_
          refine Wp.region ?_
          refine WL.val (v := .string ⟨List.toArray (jn a.ls)⟩) rfl (Yl.move rfl) ?_
          refine WL.val (v := .string ⟨List.toArray (jn b.ls)⟩) rfl (Yl.move rfl) ?_
          refine WL.val (v := .bool (decide ((jn b.ls) < (jn a.ls)))) rfl (Yl.bool (e := !(Op.bytesLess (jn a.ls) (jn b.ls) || decide ((jn a.ls) = (jn b.ls)))) (Yl.strGt rfl rfl) (bl_gt _ _)) ?_
          refine WL.nil ?_
          refine Fin.then ?_
          by_cases h73 : (jn b.ls) < (jn a.ls)
          · skip
            refine Wp.cond1 rfl (decide_eq_true h73) ?_
            refine Wp.region ?_
            refine WL.val (v := .int .i64 1) rfl (Yl.assign rfl) ?_
            refine WL.nil ?_
            refine Fin.then ?_
            refine Wp.seq ?_
            refine Wp.region ?_
            refine WL.val (v := .bool true) rfl (Yl.move rfl) ?_
            refine WL.val (v := .bool true) rfl (Yl.move rfl) ?_
            refine WL.valG (v := .int .i64 0) rfl rfl rfl rfl (Yl.move rfl) ?_
            refine WL.valG (v := .bool true) rfl rfl rfl rfl (Yl.kern rfl rfl (fun _ => by kernel_rfl)) ?_
            refine WL.val (v := .bool true) rfl (Yl.pickT rfl rfl rfl) ?_
            refine WL.val (v := .bool true) rfl (Yl.move rfl) ?_
            refine WL.valG (v := .slice A45 n47 c46) rfl rfl rfl rfl (Yl.move rfl) ?_
            refine WL.valG (v := .slice a.A (List.length a.ls) a.c) rfl rfl rfl rfl (Yl.move rfl) ?_
            obtain ⟨D74, HP75, ro76, bk77, rr78⟩ := Own.enter (L1 := []) (L2 := [row A45 n47 c46 (List.flatMap eS ps43) 9 1]) H53
            refine WL.doG rfl rfl rfl rfl (Do.call Try.call17 rfl (same_n A45 a.A c46 a.c ps43 a.ls _ _ HP75 n47 (List.length a.ls) (rds_len eS_len (by decide) (H53.rds (i := 0) rfl)) rfl (rr78 _ 0 _ rfl row_rds) (ro76 _ roa) (by omega)) ?_)
            rintro _ w79 ⟨rfl, HQ80⟩
            have H81 : Own w (fun _ : Nat => False) w79 [row A45 n47 c46 (List.flatMap eS ps43) 9 1] := bk77 _ _ HQ80
            refine WL.val (v := .bool (decide (ps43 = a.ls))) rfl (Yl.pickT rfl rfl rfl) ?_
            refine WL.val (v := .bool (decide (ps43 = a.ls))) rfl (Yl.move rfl) ?_
            refine WL.valG (v := .slice a.A (List.length a.ls) a.c) rfl rfl (decide_eq_true (jn_inj qi44.1)) rfl (Yl.move rfl) ?_
            refine WL.valG (v := .slice b.A (List.length b.ls) b.c) rfl rfl (decide_eq_true (jn_inj qi44.1)) rfl (Yl.move rfl) ?_
            obtain ⟨D82, HP83, ro84, bk85, rr86⟩ := Own.enter (L1 := []) (L2 := [row A45 n47 c46 (List.flatMap eS ps43) 9 1]) H81
            refine WL.doG rfl rfl (decide_eq_true (jn_inj qi44.1)) rfl (Do.call Try.call13 rfl (Compare_n a.A b.A a.c b.c a.ls b.ls _ _ HP83 (List.length a.ls) (List.length b.ls) rfl rfl (ro84 _ roa) (ro84 _ rob) (by omega)) ?_)
            rintro _ w87 ⟨rfl, HQ88⟩
            have H89 : Own w (fun _ : Nat => False) w87 [row A45 n47 c46 (List.flatMap eS ps43) 9 1] := bk85 _ _ HQ88
            refine WL.valG (v := .int .i64 1) rfl rfl (decide_eq_true (jn_inj qi44.1)) rfl (Yl.move rfl) ?_
            refine WL.valG (v := .bool (decide (lcmp a.ls b.ls = 1))) rfl rfl (decide_eq_true (jn_inj qi44.1)) rfl (Yl.kern rfl rfl (fun _ => by kernel_rfl)) ?_
            refine WL.val (v := .bool (decide (lcmp a.ls b.ls = 1))) rfl (Yl.pickT rfl (decide_eq_true (jn_inj qi44.1)) rfl) ?_
            refine WL.val (v := .bool (decide (lcmp a.ls b.ls = 1))) rfl (Yl.assign rfl) ?_
            refine WL.nil ?_
            refine Fin.then ?_
            refine Wp.ret ?_
            refine Fin.res (res1 rfl rfl) ?_
            have H90 : Own w (fun _ : Nat => False) w87 [] := H89.pick [] (by decide) rfl
            exact ⟨congrArg Value.bool (decide_eq_true (lcmp_gt h54 h73)), H90⟩
          · skip
            refine Wp.cond0 rfl (decide_eq_false h73) ?_
            refine Wp.skip ?_
            refine Fin.then ?_
            refine Wp.seq ?_
            refine Wp.region ?_
            refine WL.val (v := .bool true) rfl (Yl.move rfl) ?_
            refine WL.val (v := .bool true) rfl (Yl.move rfl) ?_
            refine WL.valG (v := .int .i64 0) rfl rfl rfl rfl (Yl.move rfl) ?_
            refine WL.valG (v := .bool true) rfl rfl rfl rfl (Yl.kern rfl rfl (fun _ => by kernel_rfl)) ?_
            refine WL.val (v := .bool true) rfl (Yl.pickT rfl rfl rfl) ?_
            refine WL.val (v := .bool true) rfl (Yl.move rfl) ?_
            refine WL.valG (v := .slice A45 n47 c46) rfl rfl rfl rfl (Yl.move rfl) ?_
            refine WL.valG (v := .slice a.A (List.length a.ls) a.c) rfl rfl rfl rfl (Yl.move rfl) ?_
            obtain ⟨D91, HP92, ro93, bk94, rr95⟩ := Own.enter (L1 := []) (L2 := [row A45 n47 c46 (List.flatMap eS ps43) 9 1]) H53
            refine WL.doG rfl rfl rfl rfl (Do.call Try.call17 rfl (same_n A45 a.A c46 a.c ps43 a.ls _ _ HP92 n47 (List.length a.ls) (rds_len eS_len (by decide) (H53.rds (i := 0) rfl)) rfl (rr95 _ 0 _ rfl row_rds) (ro93 _ roa) (by omega)) ?_)
            rintro _ w96 ⟨rfl, HQ97⟩
            have H98 : Own w (fun _ : Nat => False) w96 [row A45 n47 c46 (List.flatMap eS ps43) 9 1] := bk94 _ _ HQ97
            refine WL.val (v := .bool (decide (ps43 = a.ls))) rfl (Yl.pickT rfl rfl rfl) ?_
            refine WL.val (v := .bool (decide (ps43 = a.ls))) rfl (Yl.move rfl) ?_
            refine WL.valG (v := .slice a.A (List.length a.ls) a.c) rfl rfl (decide_eq_true (jn_inj qi44.1)) rfl (Yl.move rfl) ?_
            refine WL.valG (v := .slice b.A (List.length b.ls) b.c) rfl rfl (decide_eq_true (jn_inj qi44.1)) rfl (Yl.move rfl) ?_
            obtain ⟨D99, HP100, ro101, bk102, rr103⟩ := Own.enter (L1 := []) (L2 := [row A45 n47 c46 (List.flatMap eS ps43) 9 1]) H98
            refine WL.doG rfl rfl (decide_eq_true (jn_inj qi44.1)) rfl (Do.call Try.call13 rfl (Compare_n a.A b.A a.c b.c a.ls b.ls _ _ HP100 (List.length a.ls) (List.length b.ls) rfl rfl (ro101 _ roa) (ro101 _ rob) (by omega)) ?_)
            rintro _ w104 ⟨rfl, HQ105⟩
            have H106 : Own w (fun _ : Nat => False) w104 [row A45 n47 c46 (List.flatMap eS ps43) 9 1] := bk102 _ _ HQ105
            refine WL.valG (v := .int .i64 0) rfl rfl (decide_eq_true (jn_inj qi44.1)) rfl (Yl.move rfl) ?_
            refine WL.valG (v := .bool (decide (lcmp a.ls b.ls = 0))) rfl rfl (decide_eq_true (jn_inj qi44.1)) rfl (Yl.kern rfl rfl (fun _ => by kernel_rfl)) ?_
            refine WL.val (v := .bool (decide (lcmp a.ls b.ls = 0))) rfl (Yl.pickT rfl (decide_eq_true (jn_inj qi44.1)) rfl) ?_
            refine WL.val (v := .bool (decide (lcmp a.ls b.ls = 0))) rfl (Yl.assign rfl) ?_
            refine WL.nil ?_
            refine Fin.then ?_
            refine Wp.ret ?_
            refine Fin.res (res1 rfl rfl) ?_
            have H107 : Own w (fun _ : Nat => False) w104 [] := H106.pick [] (by decide) rfl
            exact ⟨congrArg Value.bool (decide_eq_true (lcmp_eq h54 h73)), H107⟩
      · skip
        have H108 : Own w (fun _ : Nat => False) w38 [] := bk36 _ _ HQ49
        exact absurd ⟨a.ls, rfl, by omega, by omega⟩ qi51
    · skip
      have H109 : Own w (fun _ : Nat => False) w26 [] := bk24 _ _ HQ29
      refine WL.val (v := .tuple #[.string ⟨List.toArray ([])⟩, .int .i64 e30]) rfl (Yl.move rfl) ?_
      refine WL.val (v := .string ⟨List.toArray ([])⟩) rfl (Yl.kern rfl rfl (fun _ => by kernel_rfl)) ?_
      refine WL.val (v := .int .i64 e30) rfl (Yl.kern rfl rfl (fun _ => by kernel_rfl)) ?_
      refine WL.val (v := .string ⟨List.toArray ([])⟩) rfl (Yl.assign rfl) ?_
      refine WL.val (v := .int .i64 e30) rfl (Yl.assign rfl) ?_
      refine WL.nil ?_
      refine Fin.then ?_
      refine Wp.seq ?_
      refine Wp.seq ?_
      refine Wp.region ?_
      refine WL.val (v := .int .i64 0) rfl (Yl.move rfl) ?_
      refine WL.val (v := .bool false) rfl (Yl.kern rfl rfl (fun _ => by kernel_rfl)) ?_
      refine WL.val (v := .bool false) rfl (Yl.move rfl) ?_
      refine WL.valG (v := .int .i64 e30) rfl rfl rfl rfl (Yl.move rfl) ?_
      refine WL.valG (v := .bool (decide (¬ (e30 = 0)))) rfl rfl rfl rfl (Yl.bool (e := !(decide (e30 = 0))) (Yl.kern rfl rfl (fun _ => by kernel_rfl)) decide_not.symm) ?_
      refine WL.val (v := .bool (decide (¬ (e30 = 0)))) rfl (Yl.pickF rfl rfl rfl) ?_
      refine WL.nil ?_
      refine Fin.then ?_
      have hb110 : (decide (¬ (e30 = 0))) = true := (decide_eq_true (by omega))
      refine Wp.cond1 rfl hb110 ?_
      refine Wp.seq ?_
      refine Wp.region ?_
      refine WL.val (v := .bool true) rfl (Yl.move rfl) ?_
      refine WL.val (v := .bool true) rfl (Yl.assign rfl) ?_
      refine WL.nil ?_
      refine Fin.then ?_
      refine Wp.ret ?_
      refine Fin.thenR ?_
      refine Fin.res (res1 rfl rfl) ?_
      have H111 : Own w (fun _ : Nat => False) w26 [] := H109.pick [] (by decide) rfl
      exact ⟨rfl, H111⟩
  · skip
    have H112 : Own w (fun _ : Nat => False) w14 [] := bk12 _ _ HQ17
    refine WL.val (v := .tuple #[.string ⟨List.toArray ([])⟩, .int .i64 e18]) rfl (Yl.move rfl) ?_
    refine WL.val (v := .string ⟨List.toArray ([])⟩) rfl (Yl.kern rfl rfl (fun _ => by kernel_rfl)) ?_
    refine WL.val (v := .int .i64 e18) rfl (Yl.kern rfl rfl (fun _ => by kernel_rfl)) ?_
    refine WL.val (v := .string ⟨List.toArray ([])⟩) rfl (Yl.assign rfl) ?_
    refine WL.val (v := .int .i64 e18) rfl (Yl.assign rfl) ?_
    refine WL.nil ?_
    refine Fin.then ?_
    refine Wp.seq ?_
    refine Wp.region ?_
    refine WL.val (v := .slice b.A (List.length b.ls) b.c) rfl (Yl.move rfl) ?_
    obtain ⟨D113, HP114, ro115, bk116, rr117⟩ := Own.enter (L1 := []) (L2 := []) H112
    refine WL.do rfl (Do.call Try.call9 rfl (Join_two b.A b.c (List.length b.ls) b.ls _ _ HP114 rfl (ro115 _ rob) hb.2.2.2) ?_)
    rintro _ w118 (⟨qj120, rfl, HQ119⟩ | ⟨e122, qj123, rfl, HQ121⟩)
    · skip
      have H124 : Own w (fun _ : Nat => False) w118 [] := bk116 _ _ HQ119
      refine WL.val (v := .tuple #[.string ⟨List.toArray (jn b.ls)⟩, .int .i64 0]) rfl (Yl.move rfl) ?_
      refine WL.val (v := .string ⟨List.toArray (jn b.ls)⟩) rfl (Yl.kern rfl rfl (fun _ => by kernel_rfl)) ?_
      refine WL.val (v := .int .i64 0) rfl (Yl.kern rfl rfl (fun _ => by kernel_rfl)) ?_
      refine WL.val (v := .string ⟨List.toArray (jn b.ls)⟩) rfl (Yl.assign rfl) ?_
      refine WL.val (v := .int .i64 0) rfl (Yl.assign rfl) ?_
      refine WL.nil ?_
      refine Fin.then ?_
      refine Wp.seq ?_
      refine Wp.seq ?_
      refine Wp.region ?_
      refine WL.val (v := .int .i64 e18) rfl (Yl.move rfl) ?_
      refine WL.val (v := .bool (decide (¬ (e18 = 0)))) rfl (Yl.bool (e := !(decide (e18 = 0))) (Yl.kern rfl rfl (fun _ => by kernel_rfl)) decide_not.symm) ?_
      refine WL.val (v := .bool (decide (¬ (e18 = 0)))) rfl (Yl.move rfl) ?_
      have hb125 : (decide (¬ (e18 = 0))) = true := (decide_eq_true (by omega))
      refine WL.skipG rfl rfl hb125 rfl ?_
      refine WL.skipG rfl rfl hb125 rfl ?_
      refine WL.val (v := .bool true) rfl (Yl.pickT rfl hb125 rfl) ?_
      refine WL.nil ?_
      refine Fin.then ?_
      refine Wp.cond1 rfl rfl ?_
      refine Wp.seq ?_
      refine Wp.region ?_
      refine WL.val (v := .bool true) rfl (Yl.move rfl) ?_
      refine WL.val (v := .bool true) rfl (Yl.assign rfl) ?_
      refine WL.nil ?_
      refine Fin.then ?_
      refine Wp.ret ?_
      refine Fin.thenR ?_
      refine Fin.res (res1 rfl rfl) ?_
      have H126 : Own w (fun _ : Nat => False) w118 [] := H124.pick [] (by decide) rfl
      exact ⟨rfl, H126⟩
    · skip
      have H127 : Own w (fun _ : Nat => False) w118 [] := bk116 _ _ HQ121
      refine WL.val (v := .tuple #[.string ⟨List.toArray ([])⟩, .int .i64 e122]) rfl (Yl.move rfl) ?_
      refine WL.val (v := .string ⟨List.toArray ([])⟩) rfl (Yl.kern rfl rfl (fun _ => by kernel_rfl)) ?_
      refine WL.val (v := .int .i64 e122) rfl (Yl.kern rfl rfl (fun _ => by kernel_rfl)) ?_
      refine WL.val (v := .string ⟨List.toArray ([])⟩) rfl (Yl.assign rfl) ?_
      refine WL.val (v := .int .i64 e122) rfl (Yl.assign rfl) ?_
      refine WL.nil ?_
      refine Fin.then ?_
      refine Wp.seq ?_
      refine Wp.seq ?_
      refine Wp.region ?_
      refine WL.val (v := .int .i64 e18) rfl (Yl.move rfl) ?_
      refine WL.val (v := .bool (decide (¬ (e18 = 0)))) rfl (Yl.bool (e := !(decide (e18 = 0))) (Yl.kern rfl rfl (fun _ => by kernel_rfl)) decide_not.symm) ?_
      refine WL.val (v := .bool (decide (¬ (e18 = 0)))) rfl (Yl.move rfl) ?_
      have hb128 : (decide (¬ (e18 = 0))) = true := (decide_eq_true (by omega))
      refine WL.skipG rfl rfl hb128 rfl ?_
      refine WL.skipG rfl rfl hb128 rfl ?_
      refine WL.val (v := .bool true) rfl (Yl.pickT rfl hb128 rfl) ?_
      refine WL.nil ?_
      refine Fin.then ?_
      refine Wp.cond1 rfl rfl ?_
      refine Wp.seq ?_
      refine Wp.region ?_
      refine WL.val (v := .bool true) rfl (Yl.move rfl) ?_
      refine WL.val (v := .bool true) rfl (Yl.assign rfl) ?_
      refine WL.nil ?_
      refine Fin.then ?_
      refine Wp.ret ?_
      refine Fin.thenR ?_
      refine Fin.res (res1 rfl rfl) ?_
      have H129 : Own w (fun _ : Nat => False) w118 [] := H127.pick [] (by decide) rfl
      exact ⟨rfl, H129⟩

theorem W_TupleOrder (w : World) (a : Sv (List UInt8)) (ha : SvOk w 1 16 eS (fun s => List.length s ≤ 140737488351232) a) (b : Sv (List UInt8)) (hb : SvOk w 1 16 eS (fun s => List.length s ≤ 140737488351232) b) :
    Calls Try.prog 5 #[.slice a.A (List.length a.ls) a.c, .slice b.A (List.length b.ls) b.c] w fun e w' => e = .returned (.bool true) ∧ Below w.heap.size w w' :=
  (order_ok w a ha b hb).mono fun e w' ⟨v, he, hv, H⟩ => ⟨by rw [he, hv], H.below⟩

set_option maxRecDepth 100000 in
theorem compare_ok (w : World) (a : Sv (List UInt8)) (ha : SvOk w 1 16 eS (fun s => List.length s ≤ 140737488351232) a) (b : Sv (List UInt8)) (hb : SvOk w 1 16 eS (fun s => List.length s ≤ 140737488351232) b) (c : Sv (List UInt8)) (hc : SvOk w 1 16 eS (fun s => List.length s ≤ 140737488351232) c) :
    Calls Try.prog 6 #[.slice a.A (List.length a.ls) a.c, .slice b.A (List.length b.ls) b.c, .slice c.A (List.length c.ls) c.c] w (Ret fun v w' => v = .bool true ∧ Own w (fun _ : Nat => False) w' []) := by
  have roa : Ro w (fun _ : Nat => False) fun w' => Rds w' 1 a.A (List.length a.ls) (List.flatMap eS a.ls) := Rds.ro ha.2.2.1 (by decide)
  have lea := ha.1
  have lca := ha.2.1
  have rob : Ro w (fun _ : Nat => False) fun w' => Rds w' 1 b.A (List.length b.ls) (List.flatMap eS b.ls) := Rds.ro hb.2.2.1 (by decide)
  have leb := hb.1
  have lcb := hb.2.1
  have roc : Ro w (fun _ : Nat => False) fun w' => Rds w' 1 c.A (List.length c.ls) (List.flatMap eS c.ls) := Rds.ro hc.2.2.1 (by decide)
  have lec := hc.1
  have lcc := hc.2.1
  have H : Own w (fun _ : Nat => False) w [] := Own.start w
  refine Calls.body (args := [.slice a.A (List.length a.ls) a.c, .slice b.A (List.length b.ls) b.c, .slice c.A (List.length c.ls) c.c]) Try.func6 rfl rfl rfl ?_
  show Wp _ _ _ [(0, .slice a.A (List.length a.ls) a.c), (1, .slice b.A (List.length b.ls) b.c), (2, .slice c.A (List.length c.ls) c.c)] _ _
  have r1 := lcmp_range a.ls b.ls
  have r2 := lcmp_range b.ls c.ls
  have r3 := lcmp_range a.ls c.ls
  have r4 := lcmp_anti a.ls b.ls
  have r5 := lcmp_self a.ls
  refine Wp.seq ?_
  refine Wp.region ?_
  refine WL.val (v := .bool false) rfl (Yl.assign rfl) ?_
  refine WL.nil ?_
  refine Fin.then ?_
  refine Wp.seq ?_
  refine Wp.region ?_
  obtain ⟨D1, HP2, ro3, bk4, rr5⟩ := Own.enter (L1 := []) (L2 := []) H
  refine WL.do rfl (Do.call Try.call8 rfl (live_ok _ _ HP2) ?_)
  rintro _ w6 ⟨rfl, HQ7⟩
  have H8 : Own w (fun _ : Nat => False) w6 [] := bk4 _ _ HQ7
  refine WL.val (v := .bool true) rfl (Yl.assign rfl) ?_
  refine WL.nil ?_
  refine Fin.then ?_
  refine Wp.seq ?_
  refine Wp.region ?_
  refine WL.val (v := .slice a.A (List.length a.ls) a.c) rfl (Yl.move rfl) ?_
  refine WL.val (v := .slice b.A (List.length b.ls) b.c) rfl (Yl.move rfl) ?_
  obtain ⟨D9, HP10, ro11, bk12, rr13⟩ := Own.enter (L1 := []) (L2 := []) H8
  refine WL.do rfl (Do.call Try.call13 rfl (Compare_n a.A b.A a.c b.c a.ls b.ls _ _ HP10 (List.length a.ls) (List.length b.ls) rfl rfl (ro11 _ roa) (ro11 _ rob) (by omega)) ?_)
  rintro _ w14 ⟨rfl, HQ15⟩
  have H16 : Own w (fun _ : Nat => False) w14 [] := bk12 _ _ HQ15
  refine WL.val (v := .int .i64 (lcmp a.ls b.ls)) rfl (Yl.assign rfl) ?_
  refine WL.nil ?_
  refine Fin.then ?_
  refine Wp.seq ?_
  refine Wp.region ?_
  refine WL.val (v := .slice b.A (List.length b.ls) b.c) rfl (Yl.move rfl) ?_
  refine WL.val (v := .slice c.A (List.length c.ls) c.c) rfl (Yl.move rfl) ?_
  obtain ⟨D17, HP18, ro19, bk20, rr21⟩ := Own.enter (L1 := []) (L2 := []) H16
  refine WL.do rfl (Do.call Try.call13 rfl (Compare_n b.A c.A b.c c.c b.ls c.ls _ _ HP18 (List.length b.ls) (List.length c.ls) rfl rfl (ro19 _ rob) (ro19 _ roc) (by omega)) ?_)
  rintro _ w22 ⟨rfl, HQ23⟩
  have H24 : Own w (fun _ : Nat => False) w22 [] := bk20 _ _ HQ23
  refine WL.val (v := .int .i64 (lcmp b.ls c.ls)) rfl (Yl.assign rfl) ?_
  refine WL.nil ?_
  refine Fin.then ?_
  refine Wp.seq ?_
  refine Wp.region ?_
  refine WL.val (v := .slice a.A (List.length a.ls) a.c) rfl (Yl.move rfl) ?_
  refine WL.val (v := .slice c.A (List.length c.ls) c.c) rfl (Yl.move rfl) ?_
  obtain ⟨D25, HP26, ro27, bk28, rr29⟩ := Own.enter (L1 := []) (L2 := []) H24
  refine WL.do rfl (Do.call Try.call13 rfl (Compare_n a.A c.A a.c c.c a.ls c.ls _ _ HP26 (List.length a.ls) (List.length c.ls) rfl rfl (ro27 _ roa) (ro27 _ roc) (by omega)) ?_)
  rintro _ w30 ⟨rfl, HQ31⟩
  have H32 : Own w (fun _ : Nat => False) w30 [] := bk28 _ _ HQ31
  refine WL.val (v := .int .i64 (lcmp a.ls c.ls)) rfl (Yl.assign rfl) ?_
  refine WL.nil ?_
  refine Fin.then ?_
  refine Wp.seq ?_
  refine Wp.seq ?_
  refine Wp.region ?_
  refine WL.val (v := .int .i64 (lcmp a.ls b.ls)) rfl (Yl.move rfl) ?_
  refine WL.val (v := .bool (decide (lcmp a.ls b.ls < (-1)))) rfl (Yl.kern rfl rfl (fun _ => by kernel_rfl)) ?_
  refine WL.val (v := .bool (decide (lcmp a.ls b.ls < (-1)))) rfl (Yl.move rfl) ?_
  have hb33 : (decide (lcmp a.ls b.ls < (-1))) = false := (decide_eq_false (by omega))
  refine WL.valG (v := .int .i64 (lcmp a.ls b.ls)) rfl rfl hb33 rfl (Yl.move rfl) ?_
  refine WL.valG (v := .bool (decide (lcmp a.ls b.ls > 1))) rfl rfl hb33 rfl (Yl.kern rfl rfl (fun _ => by kernel_rfl)) ?_
  refine WL.val (v := .bool (decide (lcmp a.ls b.ls > 1))) rfl (Yl.pickF rfl hb33 rfl) ?_
  refine WL.val (v := .bool (decide (lcmp a.ls b.ls > 1))) rfl (Yl.move rfl) ?_
  have hb34 : (decide (lcmp a.ls b.ls > 1)) = false := (decide_eq_false (by omega))
  refine WL.valG (v := .int .i64 (lcmp a.ls b.ls)) rfl rfl hb34 rfl (Yl.move rfl) ?_
  refine WL.valG (v := .slice b.A (List.length b.ls) b.c) rfl rfl hb34 rfl (Yl.move rfl) ?_
  refine WL.valG (v := .slice a.A (List.length a.ls) a.c) rfl rfl hb34 rfl (Yl.move rfl) ?_
  obtain ⟨D35, HP36, ro37, bk38, rr39⟩ := Own.enter (L1 := []) (L2 := []) H32
  refine WL.doG rfl rfl hb34 rfl (Do.call Try.call13 rfl (Compare_n b.A a.A b.c a.c b.ls a.ls _ _ HP36 (List.length b.ls) (List.length a.ls) rfl rfl (ro37 _ rob) (ro37 _ roa) (by omega)) ?_)
  rintro _ w40 ⟨rfl, HQ41⟩
  have H42 : Own w (fun _ : Nat => False) w40 [] := bk38 _ _ HQ41
  refine WL.valG (v := .int .i64 (-(lcmp b.ls a.ls))) rfl rfl hb34 rfl (Yl.int (e := IntKind.i64.wrap (0 - (lcmp b.ls a.ls))) (Yl.kern rfl rfl (fun _ => by kernel_rfl)) (by rw [IntWalk.i64_in _ (by omega)]; omega)) ?_
  refine WL.valG (v := .bool (decide (¬ (lcmp a.ls b.ls = -(lcmp b.ls a.ls))))) rfl rfl hb34 rfl (Yl.bool (e := !(decide (lcmp a.ls b.ls = -(lcmp b.ls a.ls)))) (Yl.kern rfl rfl (fun _ => by kernel_rfl)) decide_not.symm) ?_
  refine WL.val (v := .bool (decide (¬ (lcmp a.ls b.ls = -(lcmp b.ls a.ls))))) rfl (Yl.pickF rfl hb34 rfl) ?_
  refine WL.val (v := .bool (decide (¬ (lcmp a.ls b.ls = -(lcmp b.ls a.ls))))) rfl (Yl.move rfl) ?_
  have hb43 : (decide (¬ (lcmp a.ls b.ls = -(lcmp b.ls a.ls)))) = false := (decide_eq_false (by omega))
  refine WL.valG (v := .slice a.A (List.length a.ls) a.c) rfl rfl hb43 rfl (Yl.move rfl) ?_
  refine WL.valG (v := .slice a.A (List.length a.ls) a.c) rfl rfl hb43 rfl (Yl.move rfl) ?_
  obtain ⟨D44, HP45, ro46, bk47, rr48⟩ := Own.enter (L1 := []) (L2 := []) H42
  refine WL.doG rfl rfl hb43 rfl (Do.call Try.call13 rfl (Compare_n a.A a.A a.c a.c a.ls a.ls _ _ HP45 (List.length a.ls) (List.length a.ls) rfl rfl (ro46 _ roa) (ro46 _ roa) (by omega)) ?_)
  rintro _ w49 ⟨rfl, HQ50⟩
  have H51 : Own w (fun _ : Nat => False) w49 [] := bk47 _ _ HQ50
  refine WL.valG (v := .bool (decide (¬ (lcmp a.ls a.ls = 0)))) rfl rfl hb43 rfl (Yl.bool (e := !(decide (lcmp a.ls a.ls = 0))) (Yl.kern rfl rfl (fun _ => by kernel_rfl)) decide_not.symm) ?_
  refine WL.val (v := .bool (decide (¬ (lcmp a.ls a.ls = 0)))) rfl (Yl.pickF rfl hb43 rfl) ?_
  refine WL.val (v := .bool (decide (¬ (lcmp a.ls a.ls = 0)))) rfl (Yl.move rfl) ?_
  have hb52 : (decide (¬ (lcmp a.ls a.ls = 0))) = false := (decide_eq_false (by omega))
  refine WL.valG (v := .int .i64 (lcmp a.ls b.ls)) rfl rfl hb52 rfl (Yl.move rfl) ?_
  refine WL.valG (v := .bool (decide (lcmp a.ls b.ls = 0))) rfl rfl hb52 rfl (Yl.kern rfl rfl (fun _ => by kernel_rfl)) ?_
  refine WL.valG (v := .slice a.A (List.length a.ls) a.c) rfl rfl hb52 rfl (Yl.move rfl) ?_
  refine WL.valG (v := .slice b.A (List.length b.ls) b.c) rfl rfl hb52 rfl (Yl.move rfl) ?_
  obtain ⟨D53, HP54, ro55, bk56, rr57⟩ := Own.enter (L1 := []) (L2 := []) H51
  refine WL.doG rfl rfl hb52 rfl (Do.call Try.call17 rfl (same_n a.A b.A a.c b.c a.ls b.ls _ _ HP54 (List.length a.ls) (List.length b.ls) rfl rfl (ro55 _ roa) (ro55 _ rob) (by omega)) ?_)
  rintro _ w58 ⟨rfl, HQ59⟩
  have H60 : Own w (fun _ : Nat => False) w58 [] := bk56 _ _ HQ59
  refine WL.valG (v := .bool (decide (¬ ((decide (lcmp a.ls b.ls = 0)) = (decide (a.ls = b.ls)))))) rfl rfl hb52 rfl (Yl.bool (e := !(decide (lcmp a.ls b.ls = 0) == decide (a.ls = b.ls))) (Yl.kern rfl rfl (fun _ => by kernel_rfl)) (by by_cases q : (decide (lcmp a.ls b.ls = 0)) = (decide (a.ls = b.ls)) <;> simp [q])) ?_
  refine WL.val (v := .bool (decide (¬ ((decide (lcmp a.ls b.ls = 0)) = (decide (a.ls = b.ls)))))) rfl (Yl.pickF rfl hb52 rfl) ?_
  refine WL.nil ?_
  refine Fin.then ?_
  refine Wp.cond0 rfl (decide_eq_false fun h => h (decide_eq_decide.2 (lcmp_zero _ _))) ?_
  refine Wp.skip ?_
  refine Fin.then ?_
  refine Wp.seq ?_
  refine Wp.region ?_
  refine WL.val (v := .bool true) rfl (Yl.move rfl) ?_
  refine WL.val (v := .bool true) rfl (Yl.move rfl) ?_
  refine WL.valG (v := .int .i64 (lcmp a.ls b.ls)) rfl rfl rfl rfl (Yl.move rfl) ?_
  refine WL.valG (v := .int .i64 (lcmp b.ls c.ls)) rfl rfl rfl rfl (Yl.move rfl) ?_
  refine WL.valG (v := .bool (decide (¬ (lcmp a.ls b.ls = lcmp b.ls c.ls)))) rfl rfl rfl rfl (Yl.bool (e := !(decide (lcmp a.ls b.ls = lcmp b.ls c.ls))) (Yl.kern rfl rfl (fun _ => by kernel_rfl)) decide_not.symm) ?_
  refine WL.valG (v := .bool (decide (¬ (lcmp a.ls b.ls = lcmp b.ls c.ls)))) rfl rfl rfl rfl (Yl.move rfl) ?_
  by_cases h61 : ¬ (lcmp a.ls b.ls = lcmp b.ls c.ls)
  · skip
    refine WL.skipG rfl rfl (decide_eq_true h61) rfl ?_
    refine WL.skipG rfl rfl (decide_eq_true h61) rfl ?_
    refine WL.skipG rfl rfl (decide_eq_true h61) rfl ?_
    refine WL.valG (v := .bool true) rfl rfl rfl rfl (Yl.pickT rfl (decide_eq_true h61) rfl) ?_
    refine WL.val (v := .bool true) rfl (Yl.pickT rfl rfl rfl) ?_
    refine WL.val (v := .bool true) rfl (Yl.move rfl) ?_
    refine WL.valG (v := .int .i64 (lcmp a.ls b.ls)) rfl rfl rfl rfl (Yl.move rfl) ?_
    refine WL.valG (v := .bool (decide (¬ (lcmp a.ls b.ls = 0)))) rfl rfl rfl rfl (Yl.bool (e := !(decide (lcmp a.ls b.ls = 0))) (Yl.kern rfl rfl (fun _ => by kernel_rfl)) decide_not.symm) ?_
    refine WL.valG (v := .bool (decide (¬ (lcmp a.ls b.ls = 0)))) rfl rfl rfl rfl (Yl.move rfl) ?_
    by_cases h62 : ¬ (lcmp a.ls b.ls = 0)
    · skip
      refine WL.skipG rfl rfl (decide_eq_true h62) rfl ?_
      refine WL.skipG rfl rfl (decide_eq_true h62) rfl ?_
      refine WL.skipG rfl rfl (decide_eq_true h62) rfl ?_
      refine WL.valG (v := .bool true) rfl rfl rfl rfl (Yl.pickT rfl (decide_eq_true h62) rfl) ?_
      refine WL.val (v := .bool true) rfl (Yl.pickT rfl rfl rfl) ?_
      refine WL.val (v := .bool true) rfl (Yl.assign rfl) ?_
      refine WL.nil ?_
      refine Fin.then ?_
      refine Wp.ret ?_
      refine Fin.res (res1 rfl rfl) ?_
      have H63 : Own w (fun _ : Nat => False) w58 [] := H60.pick [] (by decide) rfl
      exact ⟨rfl, H63⟩
    · skip
      refine WL.valG (v := .int .i64 (lcmp a.ls c.ls)) rfl rfl (decide_eq_false h62) rfl (Yl.move rfl) ?_
      refine WL.valG (v := .int .i64 (lcmp b.ls c.ls)) rfl rfl (decide_eq_false h62) rfl (Yl.move rfl) ?_
      refine WL.valG (v := .bool (decide (lcmp a.ls c.ls = lcmp b.ls c.ls))) rfl rfl (decide_eq_false h62) rfl (Yl.kern rfl rfl (fun _ => by kernel_rfl)) ?_
      refine WL.valG (v := .bool (decide (lcmp a.ls c.ls = lcmp b.ls c.ls))) rfl rfl rfl rfl (Yl.pickF rfl (decide_eq_false h62) rfl) ?_
      refine WL.val (v := .bool (decide (lcmp a.ls c.ls = lcmp b.ls c.ls))) rfl (Yl.pickT rfl rfl rfl) ?_
      refine WL.val (v := .bool (decide (lcmp a.ls c.ls = lcmp b.ls c.ls))) rfl (Yl.assign rfl) ?_
      refine WL.nil ?_
      refine Fin.then ?_
      refine Wp.ret ?_
      refine Fin.res (res1 rfl rfl) ?_
      have H64 : Own w (fun _ : Nat => False) w58 [] := H60.pick [] (by decide) rfl
      exact ⟨congrArg Value.bool (decide_eq_true (by rw [(lcmp_zero a.ls b.ls).1 (by omega)])), H64⟩
  · skip
    refine WL.valG (v := .int .i64 (lcmp a.ls c.ls)) rfl rfl (decide_eq_false h61) rfl (Yl.move rfl) ?_
    refine WL.valG (v := .int .i64 (lcmp a.ls b.ls)) rfl rfl (decide_eq_false h61) rfl (Yl.move rfl) ?_
    refine WL.valG (v := .bool (decide (lcmp a.ls c.ls = lcmp a.ls b.ls))) rfl rfl (decide_eq_false h61) rfl (Yl.kern rfl rfl (fun _ => by kernel_rfl)) ?_
    refine WL.valG (v := .bool (decide (lcmp a.ls c.ls = lcmp a.ls b.ls))) rfl rfl rfl rfl (Yl.pickF rfl (decide_eq_false h61) rfl) ?_
    refine WL.val (v := .bool (decide (lcmp a.ls c.ls = lcmp a.ls b.ls))) rfl (Yl.pickT rfl rfl rfl) ?_
    refine WL.val (v := .bool (decide (lcmp a.ls c.ls = lcmp a.ls b.ls))) rfl (Yl.move rfl) ?_
    refine WL.valG (v := .int .i64 (lcmp a.ls b.ls)) rfl rfl (decide_eq_true (lcmp_trans (by omega))) rfl (Yl.move rfl) ?_
    refine WL.valG (v := .bool (decide (¬ (lcmp a.ls b.ls = 0)))) rfl rfl (decide_eq_true (lcmp_trans (by omega))) rfl (Yl.bool (e := !(decide (lcmp a.ls b.ls = 0))) (Yl.kern rfl rfl (fun _ => by kernel_rfl)) decide_not.symm) ?_
    refine WL.valG (v := .bool (decide (¬ (lcmp a.ls b.ls = 0)))) rfl rfl (decide_eq_true (lcmp_trans (by omega))) rfl (Yl.move rfl) ?_
    by_cases h65 : ¬ (lcmp a.ls b.ls = 0)
    · skip
      refine WL.skipG rfl rfl (decide_eq_true h65) rfl ?_
      refine WL.skipG rfl rfl (decide_eq_true h65) rfl ?_
      refine WL.skipG rfl rfl (decide_eq_true h65) rfl ?_
      refine WL.valG (v := .bool true) rfl rfl (decide_eq_true (lcmp_trans (by omega))) rfl (Yl.pickT rfl (decide_eq_true h65) rfl) ?_
      refine WL.val (v := .bool true) rfl (Yl.pickT rfl (decide_eq_true (lcmp_trans (by omega))) rfl) ?_
      refine WL.val (v := .bool true) rfl (Yl.assign rfl) ?_
      refine WL.nil ?_
      refine Fin.then ?_
      refine Wp.ret ?_
      refine Fin.res (res1 rfl rfl) ?_
      have H66 : Own w (fun _ : Nat => False) w58 [] := H60.pick [] (by decide) rfl
      exact ⟨rfl, H66⟩
    · skip
      refine WL.valG (v := .int .i64 (lcmp a.ls c.ls)) rfl rfl (decide_eq_false h65) rfl (Yl.move rfl) ?_
      refine WL.valG (v := .int .i64 (lcmp b.ls c.ls)) rfl rfl (decide_eq_false h65) rfl (Yl.move rfl) ?_
      refine WL.valG (v := .bool (decide (lcmp a.ls c.ls = lcmp b.ls c.ls))) rfl rfl (decide_eq_false h65) rfl (Yl.kern rfl rfl (fun _ => by kernel_rfl)) ?_
      refine WL.valG (v := .bool (decide (lcmp a.ls c.ls = lcmp b.ls c.ls))) rfl rfl (decide_eq_true (lcmp_trans (by omega))) rfl (Yl.pickF rfl (decide_eq_false h65) rfl) ?_
      refine WL.val (v := .bool (decide (lcmp a.ls c.ls = lcmp b.ls c.ls))) rfl (Yl.pickT rfl (decide_eq_true (lcmp_trans (by omega))) rfl) ?_
      refine WL.val (v := .bool (decide (lcmp a.ls c.ls = lcmp b.ls c.ls))) rfl (Yl.assign rfl) ?_
      refine WL.nil ?_
      refine Fin.then ?_
      refine Wp.ret ?_
      refine Fin.res (res1 rfl rfl) ?_
      have H67 : Own w (fun _ : Nat => False) w58 [] := H60.pick [] (by decide) rfl
      exact ⟨congrArg Value.bool (decide_eq_true (by rw [(lcmp_zero a.ls b.ls).1 (by omega)])), H67⟩

theorem W_TupleCompare (w : World) (a : Sv (List UInt8)) (ha : SvOk w 1 16 eS (fun s => List.length s ≤ 140737488351232) a) (b : Sv (List UInt8)) (hb : SvOk w 1 16 eS (fun s => List.length s ≤ 140737488351232) b) (c : Sv (List UInt8)) (hc : SvOk w 1 16 eS (fun s => List.length s ≤ 140737488351232) c) :
    Calls Try.prog 6 #[.slice a.A (List.length a.ls) a.c, .slice b.A (List.length b.ls) b.c, .slice c.A (List.length c.ls) c.c] w fun e w' => e = .returned (.bool true) ∧ Below w.heap.size w w' :=
  (compare_ok w a ha b hb c hc).mono fun e w' ⟨v, he, hv, H⟩ => ⟨by rw [he, hv], H.below⟩

theorem jn_push (a : List (List UInt8)) (m : List UInt8) : jn (a ++ [m]) = jn a ++ (esp m ++ [0, 1]) := by simp [jn]
theorem more_ok {a : List (List UInt8)} {m : List UInt8} {e : Int} {x : List UInt8} (he : e ≠ 0 ∧ jE a = ([], e)) (h : List.length (a ++ [m]) ≤ 4 ∧ List.length (jn (a ++ [m])) ≤ 12) : List.length a = 0 := by
  have h1 := he.2
  have hl := jn_push a m
  have h2 : List.length (jn (a ++ [m])) = List.length (jn a) + List.length (esp m ++ [0, 1]) := by rw [hl, List.length_append]
  simp only [List.length_append, List.length_cons, List.length_nil] at h
  unfold jE at h1
  by_cases h3 : List.length a < 1 ∨ 4 < List.length a
  · omega
  · rw [if_neg h3, if_neg (by rw [hl, List.length_append] at h; omega)] at h1
    exact absurd (congrArg Prod.snd h1).symm he.1

set_option maxRecDepth 100000 in
theorem more_law (w : World) (a : Sv (List UInt8)) (ha : SvOk w 1 16 eS (fun s => List.length s ≤ 140737488351232) a) (more : List UInt8) (hmore : List.length more ≤ 140737488351232) :
    Calls Try.prog 7 #[.slice a.A (List.length a.ls) a.c, .string ⟨List.toArray more⟩] w (Ret fun v w' => v = .bool true ∧ Own w (fun _ : Nat => False) w' []) := by
  have roa : Ro w (fun _ : Nat => False) fun w' => Rds w' 1 a.A (List.length a.ls) (List.flatMap eS a.ls) := Rds.ro ha.2.2.1 (by decide)
  have lea := ha.1
  have lca := ha.2.1
  have H : Own w (fun _ : Nat => False) w [] := Own.start w
  refine Calls.body (args := [.slice a.A (List.length a.ls) a.c, .string ⟨List.toArray more⟩]) Try.func7 rfl rfl rfl ?_
  show Wp _ _ _ [(0, .slice a.A (List.length a.ls) a.c), (1, .string ⟨List.toArray more⟩)] _ _
  refine Wp.seq ?_
  refine Wp.region ?_
  refine WL.val (v := .bool false) rfl (Yl.assign rfl) ?_
  refine WL.nil ?_
  refine Fin.then ?_
  refine Wp.seq ?_
  refine Wp.region ?_
  obtain ⟨D1, HP2, ro3, bk4, rr5⟩ := Own.enter (L1 := []) (L2 := []) H
  refine WL.do rfl (Do.call Try.call8 rfl (live_ok _ _ HP2) ?_)
  rintro _ w6 ⟨rfl, HQ7⟩
  have H8 : Own w (fun _ : Nat => False) w6 [] := bk4 _ _ HQ7
  refine WL.val (v := .bool true) rfl (Yl.assign rfl) ?_
  refine WL.nil ?_
  refine Fin.then ?_
  refine Wp.seq ?_
  refine Wp.region ?_
  refine WL.val (v := .slice a.A (List.length a.ls) a.c) rfl (Yl.move rfl) ?_
  obtain ⟨D9, HP10, ro11, bk12, rr13⟩ := Own.enter (L1 := []) (L2 := []) H8
  refine WL.do rfl (Do.call Try.call9 rfl (Join_two a.A a.c (List.length a.ls) a.ls _ _ HP10 rfl (ro11 _ roa) ha.2.2.2) ?_)
  rintro _ w14 (⟨qj16, rfl, HQ15⟩ | ⟨e18, qj19, rfl, HQ17⟩)
  · skip
    have H20 : Own w (fun _ : Nat => False) w14 [] := bk12 _ _ HQ15
    refine WL.val (v := .tuple #[.string ⟨List.toArray (jn a.ls)⟩, .int .i64 0]) rfl (Yl.move rfl) ?_
    refine WL.val (v := .string ⟨List.toArray (jn a.ls)⟩) rfl (Yl.kern rfl rfl (fun _ => by kernel_rfl)) ?_
    refine WL.val (v := .int .i64 0) rfl (Yl.kern rfl rfl (fun _ => by kernel_rfl)) ?_
    refine WL.val (v := .string ⟨List.toArray (jn a.ls)⟩) rfl (Yl.assign rfl) ?_
    refine WL.val (v := .int .i64 0) rfl (Yl.assign rfl) ?_
    refine WL.nil ?_
    refine Fin.then ?_
    refine Wp.seq ?_
    refine Wp.region ?_
    refine WL.val (v := .slice a.A (List.length a.ls) a.c) rfl (Yl.move rfl) ?_
    have H21 : Own w (fun _ : Nat => False) w14 [row none 0 0 ([]) 9 1] := H20.free ⟨by simp, .inl ⟨rfl, rfl, rfl⟩⟩
    refine WL.do rfl (Do.append (k := 0) (m := List.length a.ls) (El22) H21 rfl rfl (src_of Try.underlying22 (H21.ro roa) (flat_one eS_one a.ls)) (by unfold maxLen; omega) (by omega) (s := List.length a.ls) (by omega) rfl ?_)
    intro A22 c23 w24 H25
    replace H25 : Own w (fun _ : Nat => False) w24 [row A22 (List.length a.ls) c23 (List.flatMap eS a.ls) 9 1] := H25
    refine WL.val (v := .string ⟨List.toArray more⟩) rfl (Yl.move rfl) ?_
    refine WL.do rfl (Do.newRow (cs := [.string ⟨List.toArray more⟩]) (t := 9) (sz := 1) (m := 1) H25 rfl rfl (fun _ => by kernel_rfl) rfl (by decide) ?_)
    intro A26 w27 H28
    replace H28 : Own w (fun _ : Nat => False) w27 [row A26 1 1 (List.flatMap eS ([more])) 9 1, row A22 (List.length a.ls) c23 (List.flatMap eS a.ls) 9 1] := H28
    have H29 : Own w (fun _ : Nat => False) w27 [row A22 (List.length a.ls) c23 (List.flatMap eS a.ls) 9 1, row A26 1 1 (List.flatMap eS ([more])) 9 1] := H28.pick [1, 0] (by decide) rfl
    refine WL.do rfl (Do.append (k := List.length a.ls) (m := 1) (El22) H29 rfl rfl (src_of Try.underlying22 (H29.rds (i := 1) rfl) (flat_one eS_one ([more]))) (by unfold maxLen; omega) (by omega) (s := List.length a.ls + 1) (by omega) (List.flatMap_append).symm ?_)
    intro A30 c31 w32 H33
    replace H33 : Own w (fun _ : Nat => False) w32 [row A30 (List.length a.ls + 1) c31 (List.flatMap eS (a.ls ++ [more])) 9 1, row A26 1 1 (List.flatMap eS ([more])) 9 1] := H33
    obtain ⟨D34, HP35, ro36, bk37, rr38⟩ := Own.enter (L1 := []) (L2 := [row A30 (List.length a.ls + 1) c31 (List.flatMap eS (a.ls ++ [more])) 9 1, row A26 1 1 (List.flatMap eS ([more])) 9 1]) H33
    refine WL.do rfl (Do.call Try.call9 rfl (Join_two A30 c31 (List.length a.ls + 1) (a.ls ++ [more]) _ _ HP35 (rds_len eS_len (by decide) (H33.rds (i := 0) rfl)) (rr38 _ 0 _ rfl row_rds) (fun p hp => by
          rcases List.mem_append.1 hp with hp | hp
          · exact ha.2.2.2 p hp
          · rw [List.mem_singleton.1 hp]; omega)) ?_)
    rintro _ w39 (⟨qj41, rfl, HQ40⟩ | ⟨e43, qj44, rfl, HQ42⟩)
    · skip
      have H45 : Own w (fun _ : Nat => False) w39 [row A30 (List.length a.ls + 1) c31 (List.flatMap eS (a.ls ++ [more])) 9 1, row A26 1 1 (List.flatMap eS ([more])) 9 1] := bk37 _ _ HQ40
      refine WL.val (v := .tuple #[.string ⟨List.toArray (jn (a.ls ++ [more]))⟩, .int .i64 0]) rfl (Yl.move rfl) ?_
      refine WL.val (v := .string ⟨List.toArray (jn (a.ls ++ [more]))⟩) rfl (Yl.kern rfl rfl (fun _ => by kernel_rfl)) ?_
      refine WL.val (v := .int .i64 0) rfl (Yl.kern rfl rfl (fun _ => by kernel_rfl)) ?_
      refine WL.val (v := .string ⟨List.toArray (jn (a.ls ++ [more]))⟩) rfl (Yl.assign rfl) ?_
      refine WL.val (v := .int .i64 0) rfl (Yl.assign rfl) ?_
      refine WL.nil ?_
      refine Fin.then ?_
      refine Wp.seq ?_
      refine Wp.seq ?_
      refine Wp.region ?_
      have hmo := jn_push a.ls more
      have hml : List.length (jn (a.ls ++ [more])) = List.length (jn a.ls) + List.length (esp more ++ [0, 1]) := by rw [hmo, List.length_append]
      have hm2 : 2 ≤ List.length (esp more ++ [0, 1]) := by simp
      refine WL.val (v := .int .i64 0) rfl (Yl.move rfl) ?_
      refine WL.val (v := .bool false) rfl (Yl.kern rfl rfl (fun _ => by kernel_rfl)) ?_
      refine WL.val (v := .bool false) rfl (Yl.move rfl) ?_
      refine WL.valG (v := .int .i64 0) rfl rfl rfl rfl (Yl.move rfl) ?_
      refine WL.valG (v := .bool false) rfl rfl rfl rfl (Yl.kern rfl rfl (fun _ => by kernel_rfl)) ?_
      refine WL.val (v := .bool false) rfl (Yl.pickF rfl rfl rfl) ?_
      refine WL.nil ?_
      refine Fin.then ?_
      refine Wp.cond0 rfl rfl ?_
      refine Wp.skip ?_
      refine Fin.then ?_
      refine Wp.seq ?_
      refine Wp.region ?_
      refine WL.val (v := .bool true) rfl (Yl.move rfl) ?_
      refine WL.val (v := .bool true) rfl (Yl.move rfl) ?_
      refine WL.valG (v := .string ⟨List.toArray (jn (a.ls ++ [more]))⟩) rfl rfl rfl rfl (Yl.move rfl) ?_
      refine WL.valG (v := .int .i64 ((List.length (jn (a.ls ++ [more])) : Nat) : Int)) rfl rfl rfl rfl (Yl.kern rfl rfl (fun _ => by kernel_rfl)) ?_
      refine WL.valG (v := .string ⟨List.toArray (jn a.ls)⟩) rfl rfl rfl rfl (Yl.move rfl) ?_
      refine WL.valG (v := .int .i64 ((List.length (jn a.ls) : Nat) : Int)) rfl rfl rfl rfl (Yl.kern rfl rfl (fun _ => by kernel_rfl)) ?_
      refine WL.valG (v := .bool (decide (((List.length (jn (a.ls ++ [more])) : Nat) : Int) > ((List.length (jn a.ls) : Nat) : Int)))) rfl rfl rfl rfl (Yl.kern rfl rfl (fun _ => by kernel_rfl)) ?_
      refine WL.val (v := .bool (decide (((List.length (jn (a.ls ++ [more])) : Nat) : Int) > ((List.length (jn a.ls) : Nat) : Int)))) rfl (Yl.pickT rfl rfl rfl) ?_
      refine WL.val (v := .bool (decide (((List.length (jn (a.ls ++ [more])) : Nat) : Int) > ((List.length (jn a.ls) : Nat) : Int)))) rfl (Yl.move rfl) ?_
      have hb46 : (decide (((List.length (jn (a.ls ++ [more])) : Nat) : Int) > ((List.length (jn a.ls) : Nat) : Int))) = true := (decide_eq_true (by omega))
      refine WL.valG (v := .string ⟨List.toArray (jn (a.ls ++ [more]))⟩) rfl rfl hb46 rfl (Yl.move rfl) ?_
      refine WL.valG (v := .string ⟨List.toArray (jn a.ls)⟩) rfl rfl hb46 rfl (Yl.move rfl) ?_
      refine WL.valG (v := .int .i64 ((List.length (jn a.ls) : Nat) : Int)) rfl rfl hb46 rfl (Yl.kern rfl rfl (fun _ => by kernel_rfl)) ?_
      refine WL.valG (v := .string ⟨List.toArray (List.take (List.length (jn a.ls)) (jn (a.ls ++ [more])))⟩) rfl rfl hb46 rfl (Yl.strTo Try.underlying9 rfl rfl (by first | omega | (simp only [List.length_drop, List.length_take, List.length_append, List.length_cons, List.length_nil]; omega))) ?_
      refine WL.valG (v := .string ⟨List.toArray (jn a.ls)⟩) rfl rfl hb46 rfl (Yl.move rfl) ?_
      refine WL.valG (v := .bool (decide ((List.take (List.length (jn a.ls)) (jn (a.ls ++ [more]))) = (jn a.ls)))) rfl rfl hb46 rfl (Yl.strEq rfl rfl) ?_
      refine WL.val (v := .bool (decide ((List.take (List.length (jn a.ls)) (jn (a.ls ++ [more]))) = (jn a.ls)))) rfl (Yl.pickT rfl hb46 rfl) ?_
      refine WL.val (v := .bool (decide ((List.take (List.length (jn a.ls)) (jn (a.ls ++ [more]))) = (jn a.ls)))) rfl (Yl.assign rfl) ?_
      refine WL.nil ?_
      refine Fin.then ?_
      refine Wp.ret ?_
      refine Fin.res (res1 rfl rfl) ?_
      have H47 : Own w (fun _ : Nat => False) w39 [] := H45.pick [] (by decide) rfl
      exact ⟨congrArg Value.bool (decide_eq_true (by rw [hmo, List.take_left])), H47⟩
    · skip
      have H48 : Own w (fun _ : Nat => False) w39 [row A30 (List.length a.ls + 1) c31 (List.flatMap eS (a.ls ++ [more])) 9 1, row A26 1 1 (List.flatMap eS ([more])) 9 1] := bk37 _ _ HQ42
      refine WL.val (v := .tuple #[.string ⟨List.toArray ([])⟩, .int .i64 e43]) rfl (Yl.move rfl) ?_
      refine WL.val (v := .string ⟨List.toArray ([])⟩) rfl (Yl.kern rfl rfl (fun _ => by kernel_rfl)) ?_
      refine WL.val (v := .int .i64 e43) rfl (Yl.kern rfl rfl (fun _ => by kernel_rfl)) ?_
      refine WL.val (v := .string ⟨List.toArray ([])⟩) rfl (Yl.assign rfl) ?_
      refine WL.val (v := .int .i64 e43) rfl (Yl.assign rfl) ?_
      refine WL.nil ?_
      refine Fin.then ?_
      refine Wp.seq ?_
      refine Wp.seq ?_
      refine Wp.region ?_
      have hmo := jn_push a.ls more
      have hml : List.length (jn (a.ls ++ [more])) = List.length (jn a.ls) + List.length (esp more ++ [0, 1]) := by rw [hmo, List.length_append]
      have hm2 : 2 ≤ List.length (esp more ++ [0, 1]) := by simp
      refine WL.val (v := .int .i64 0) rfl (Yl.move rfl) ?_
      refine WL.val (v := .bool false) rfl (Yl.kern rfl rfl (fun _ => by kernel_rfl)) ?_
      refine WL.val (v := .bool false) rfl (Yl.move rfl) ?_
      refine WL.valG (v := .int .i64 e43) rfl rfl rfl rfl (Yl.move rfl) ?_
      refine WL.valG (v := .bool (decide (¬ (e43 = 0)))) rfl rfl rfl rfl (Yl.bool (e := !(decide (e43 = 0))) (Yl.kern rfl rfl (fun _ => by kernel_rfl)) decide_not.symm) ?_
      refine WL.val (v := .bool (decide (¬ (e43 = 0)))) rfl (Yl.pickF rfl rfl rfl) ?_
      refine WL.nil ?_
      refine Fin.then ?_
      have hb49 : (decide (¬ (e43 = 0))) = true := (decide_eq_true (by omega))
      refine Wp.cond1 rfl hb49 ?_
      refine Wp.seq ?_
      refine Wp.region ?_
      refine WL.val (v := .bool true) rfl (Yl.move rfl) ?_
      refine WL.val (v := .bool true) rfl (Yl.move rfl) ?_
      refine WL.valG (v := .int .i64 e43) rfl rfl rfl rfl (Yl.move rfl) ?_
      refine WL.valG (v := .bool (decide (¬ (e43 = 0)))) rfl rfl rfl rfl (Yl.bool (e := !(decide (e43 = 0))) (Yl.kern rfl rfl (fun _ => by kernel_rfl)) decide_not.symm) ?_
      refine WL.valG (v := .bool (decide (¬ (e43 = 0)))) rfl rfl rfl rfl (Yl.move rfl) ?_
      refine WL.skipG rfl rfl hb49 rfl ?_
      refine WL.skipG rfl rfl hb49 rfl ?_
      refine WL.skipG rfl rfl hb49 rfl ?_
      refine WL.valG (v := .bool true) rfl rfl rfl rfl (Yl.pickT rfl hb49 rfl) ?_
      refine WL.val (v := .bool true) rfl (Yl.pickT rfl rfl rfl) ?_
      refine WL.val (v := .bool true) rfl (Yl.assign rfl) ?_
      refine WL.nil ?_
      refine Fin.then ?_
      refine Wp.ret ?_
      refine Fin.thenR ?_
      refine Fin.res (res1 rfl rfl) ?_
      have H50 : Own w (fun _ : Nat => False) w39 [] := H48.pick [] (by decide) rfl
      exact ⟨rfl, H50⟩
  · skip
    have H51 : Own w (fun _ : Nat => False) w14 [] := bk12 _ _ HQ17
    refine WL.val (v := .tuple #[.string ⟨List.toArray ([])⟩, .int .i64 e18]) rfl (Yl.move rfl) ?_
    refine WL.val (v := .string ⟨List.toArray ([])⟩) rfl (Yl.kern rfl rfl (fun _ => by kernel_rfl)) ?_
    refine WL.val (v := .int .i64 e18) rfl (Yl.kern rfl rfl (fun _ => by kernel_rfl)) ?_
    refine WL.val (v := .string ⟨List.toArray ([])⟩) rfl (Yl.assign rfl) ?_
    refine WL.val (v := .int .i64 e18) rfl (Yl.assign rfl) ?_
    refine WL.nil ?_
    refine Fin.then ?_
    refine Wp.seq ?_
    refine Wp.region ?_
    refine WL.val (v := .slice a.A (List.length a.ls) a.c) rfl (Yl.move rfl) ?_
    have H52 : Own w (fun _ : Nat => False) w14 [row none 0 0 ([]) 9 1] := H51.free ⟨by simp, .inl ⟨rfl, rfl, rfl⟩⟩
    refine WL.do rfl (Do.append (k := 0) (m := List.length a.ls) (El22) H52 rfl rfl (src_of Try.underlying22 (H52.ro roa) (flat_one eS_one a.ls)) (by unfold maxLen; omega) (by omega) (s := List.length a.ls) (by omega) rfl ?_)
    intro A53 c54 w55 H56
    replace H56 : Own w (fun _ : Nat => False) w55 [row A53 (List.length a.ls) c54 (List.flatMap eS a.ls) 9 1] := H56
    refine WL.val (v := .string ⟨List.toArray more⟩) rfl (Yl.move rfl) ?_
    refine WL.do rfl (Do.newRow (cs := [.string ⟨List.toArray more⟩]) (t := 9) (sz := 1) (m := 1) H56 rfl rfl (fun _ => by kernel_rfl) rfl (by decide) ?_)
    intro A57 w58 H59
    replace H59 : Own w (fun _ : Nat => False) w58 [row A57 1 1 (List.flatMap eS ([more])) 9 1, row A53 (List.length a.ls) c54 (List.flatMap eS a.ls) 9 1] := H59
    have H60 : Own w (fun _ : Nat => False) w58 [row A53 (List.length a.ls) c54 (List.flatMap eS a.ls) 9 1, row A57 1 1 (List.flatMap eS ([more])) 9 1] := H59.pick [1, 0] (by decide) rfl
    refine WL.do rfl (Do.append (k := List.length a.ls) (m := 1) (El22) H60 rfl rfl (src_of Try.underlying22 (H60.rds (i := 1) rfl) (flat_one eS_one ([more]))) (by unfold maxLen; omega) (by omega) (s := List.length a.ls + 1) (by omega) (List.flatMap_append).symm ?_)
    intro A61 c62 w63 H64
    replace H64 : Own w (fun _ : Nat => False) w63 [row A61 (List.length a.ls + 1) c62 (List.flatMap eS (a.ls ++ [more])) 9 1, row A57 1 1 (List.flatMap eS ([more])) 9 1] := H64
    obtain ⟨D65, HP66, ro67, bk68, rr69⟩ := Own.enter (L1 := []) (L2 := [row A61 (List.length a.ls + 1) c62 (List.flatMap eS (a.ls ++ [more])) 9 1, row A57 1 1 (List.flatMap eS ([more])) 9 1]) H64
    refine WL.do rfl (Do.call Try.call9 rfl (Join_two A61 c62 (List.length a.ls + 1) (a.ls ++ [more]) _ _ HP66 (rds_len eS_len (by decide) (H64.rds (i := 0) rfl)) (rr69 _ 0 _ rfl row_rds) (fun p hp => by
          rcases List.mem_append.1 hp with hp | hp
          · exact ha.2.2.2 p hp
          · rw [List.mem_singleton.1 hp]; omega)) ?_)
    rintro _ w70 (⟨qj72, rfl, HQ71⟩ | ⟨e74, qj75, rfl, HQ73⟩)
    · skip
      have H76 : Own w (fun _ : Nat => False) w70 [row A61 (List.length a.ls + 1) c62 (List.flatMap eS (a.ls ++ [more])) 9 1, row A57 1 1 (List.flatMap eS ([more])) 9 1] := bk68 _ _ HQ71
      refine WL.val (v := .tuple #[.string ⟨List.toArray (jn (a.ls ++ [more]))⟩, .int .i64 0]) rfl (Yl.move rfl) ?_
      refine WL.val (v := .string ⟨List.toArray (jn (a.ls ++ [more]))⟩) rfl (Yl.kern rfl rfl (fun _ => by kernel_rfl)) ?_
      refine WL.val (v := .int .i64 0) rfl (Yl.kern rfl rfl (fun _ => by kernel_rfl)) ?_
      refine WL.val (v := .string ⟨List.toArray (jn (a.ls ++ [more]))⟩) rfl (Yl.assign rfl) ?_
      refine WL.val (v := .int .i64 0) rfl (Yl.assign rfl) ?_
      refine WL.nil ?_
      refine Fin.then ?_
      refine Wp.seq ?_
      refine Wp.seq ?_
      refine Wp.region ?_
      have hmo := jn_push a.ls more
      have hml : List.length (jn (a.ls ++ [more])) = List.length (jn a.ls) + List.length (esp more ++ [0, 1]) := by rw [hmo, List.length_append]
      have hm2 : 2 ≤ List.length (esp more ++ [0, 1]) := by simp
      refine WL.val (v := .int .i64 e18) rfl (Yl.move rfl) ?_
      refine WL.val (v := .bool (decide (¬ (e18 = 0)))) rfl (Yl.bool (e := !(decide (e18 = 0))) (Yl.kern rfl rfl (fun _ => by kernel_rfl)) decide_not.symm) ?_
      refine WL.val (v := .bool (decide (¬ (e18 = 0)))) rfl (Yl.move rfl) ?_
      have hb77 : (decide (¬ (e18 = 0))) = true := (decide_eq_true (by omega))
      refine WL.skipG rfl rfl hb77 rfl ?_
      refine WL.skipG rfl rfl hb77 rfl ?_
      refine WL.val (v := .bool true) rfl (Yl.pickT rfl hb77 rfl) ?_
      refine WL.nil ?_
      refine Fin.then ?_
      refine Wp.cond1 rfl rfl ?_
      refine Wp.seq ?_
      refine Wp.region ?_
      refine WL.val (v := .bool true) rfl (Yl.move rfl) ?_
      refine WL.val (v := .bool true) rfl (Yl.move rfl) ?_
      refine WL.valG (v := .int .i64 0) rfl rfl rfl rfl (Yl.move rfl) ?_
      refine WL.valG (v := .bool false) rfl rfl rfl rfl (Yl.kern rfl rfl (fun _ => by kernel_rfl)) ?_
      refine WL.valG (v := .bool false) rfl rfl rfl rfl (Yl.move rfl) ?_
      refine WL.valG (v := .slice a.A (List.length a.ls) a.c) rfl rfl rfl rfl (Yl.move rfl) ?_
      refine WL.valG (v := .int .i64 ((List.length a.ls : Nat) : Int)) rfl rfl rfl rfl (Yl.kern rfl rfl (fun _ => by kernel_rfl)) ?_
      refine WL.valG (v := .bool (decide (((List.length a.ls : Nat) : Int) = 0))) rfl rfl rfl rfl (Yl.kern rfl rfl (fun _ => by kernel_rfl)) ?_
      refine WL.valG (v := .bool (decide (((List.length a.ls : Nat) : Int) = 0))) rfl rfl rfl rfl (Yl.pickF rfl rfl rfl) ?_
      refine WL.val (v := .bool (decide (((List.length a.ls : Nat) : Int) = 0))) rfl (Yl.pickT rfl rfl rfl) ?_
      refine WL.val (v := .bool (decide (((List.length a.ls : Nat) : Int) = 0))) rfl (Yl.assign rfl) ?_
      refine WL.nil ?_
      refine Fin.then ?_
      refine Wp.ret ?_
      refine Fin.thenR ?_
      refine Fin.res (res1 rfl rfl) ?_
      have H78 : Own w (fun _ : Nat => False) w70 [] := H76.pick [] (by decide) rfl
      exact ⟨congrArg Value.bool (decide_eq_true (by have := more_ok (x := []) qj19 ⟨qj72.2.1, qj72.2.2.1⟩; omega)), H78⟩
    · skip
      have H79 : Own w (fun _ : Nat => False) w70 [row A61 (List.length a.ls + 1) c62 (List.flatMap eS (a.ls ++ [more])) 9 1, row A57 1 1 (List.flatMap eS ([more])) 9 1] := bk68 _ _ HQ73
      refine WL.val (v := .tuple #[.string ⟨List.toArray ([])⟩, .int .i64 e74]) rfl (Yl.move rfl) ?_
      refine WL.val (v := .string ⟨List.toArray ([])⟩) rfl (Yl.kern rfl rfl (fun _ => by kernel_rfl)) ?_
      refine WL.val (v := .int .i64 e74) rfl (Yl.kern rfl rfl (fun _ => by kernel_rfl)) ?_
      refine WL.val (v := .string ⟨List.toArray ([])⟩) rfl (Yl.assign rfl) ?_
      refine WL.val (v := .int .i64 e74) rfl (Yl.assign rfl) ?_
      refine WL.nil ?_
      refine Fin.then ?_
      refine Wp.seq ?_
      refine Wp.seq ?_
      refine Wp.region ?_
      have hmo := jn_push a.ls more
      have hml : List.length (jn (a.ls ++ [more])) = List.length (jn a.ls) + List.length (esp more ++ [0, 1]) := by rw [hmo, List.length_append]
      have hm2 : 2 ≤ List.length (esp more ++ [0, 1]) := by simp
      refine WL.val (v := .int .i64 e18) rfl (Yl.move rfl) ?_
      refine WL.val (v := .bool (decide (¬ (e18 = 0)))) rfl (Yl.bool (e := !(decide (e18 = 0))) (Yl.kern rfl rfl (fun _ => by kernel_rfl)) decide_not.symm) ?_
      refine WL.val (v := .bool (decide (¬ (e18 = 0)))) rfl (Yl.move rfl) ?_
      have hb80 : (decide (¬ (e18 = 0))) = true := (decide_eq_true (by omega))
      refine WL.skipG rfl rfl hb80 rfl ?_
      refine WL.skipG rfl rfl hb80 rfl ?_
      refine WL.val (v := .bool true) rfl (Yl.pickT rfl hb80 rfl) ?_
      refine WL.nil ?_
      refine Fin.then ?_
      refine Wp.cond1 rfl rfl ?_
      refine Wp.seq ?_
      refine Wp.region ?_
      refine WL.val (v := .bool true) rfl (Yl.move rfl) ?_
      refine WL.val (v := .bool true) rfl (Yl.move rfl) ?_
      refine WL.valG (v := .int .i64 e74) rfl rfl rfl rfl (Yl.move rfl) ?_
      refine WL.valG (v := .bool (decide (¬ (e74 = 0)))) rfl rfl rfl rfl (Yl.bool (e := !(decide (e74 = 0))) (Yl.kern rfl rfl (fun _ => by kernel_rfl)) decide_not.symm) ?_
      refine WL.valG (v := .bool (decide (¬ (e74 = 0)))) rfl rfl rfl rfl (Yl.move rfl) ?_
      have hb81 : (decide (¬ (e74 = 0))) = true := (decide_eq_true (by omega))
      refine WL.skipG rfl rfl hb81 rfl ?_
      refine WL.skipG rfl rfl hb81 rfl ?_
      refine WL.skipG rfl rfl hb81 rfl ?_
      refine WL.valG (v := .bool true) rfl rfl rfl rfl (Yl.pickT rfl hb81 rfl) ?_
      refine WL.val (v := .bool true) rfl (Yl.pickT rfl rfl rfl) ?_
      refine WL.val (v := .bool true) rfl (Yl.assign rfl) ?_
      refine WL.nil ?_
      refine Fin.then ?_
      refine Wp.ret ?_
      refine Fin.thenR ?_
      refine Fin.res (res1 rfl rfl) ?_
      have H82 : Own w (fun _ : Nat => False) w70 [] := H79.pick [] (by decide) rfl
      exact ⟨rfl, H82⟩

theorem W_TupleMore (w : World) (a : Sv (List UInt8)) (ha : SvOk w 1 16 eS (fun s => List.length s ≤ 140737488351232) a) (more : List UInt8) (hmore : List.length more ≤ 140737488351232) :
    Calls Try.prog 7 #[.slice a.A (List.length a.ls) a.c, .string ⟨List.toArray more⟩] w fun e w' => e = .returned (.bool true) ∧ Below w.heap.size w w' :=
  (more_law w a ha more hmore).mono fun e w' ⟨v, he, hv, H⟩ => ⟨by rw [he, hv], H.below⟩
end Go.Proofs.Yticaheijlapllaa
