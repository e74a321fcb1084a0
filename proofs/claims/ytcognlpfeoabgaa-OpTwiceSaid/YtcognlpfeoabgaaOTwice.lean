/-
  op: the law OpTwice
-/
import Derived.Test.YtcognlpfeoabgaaOw
namespace Go.Proofs.Ytcognlpfeoabgaa
open Go.RowKit
set_option linter.unusedVariables false
set_option linter.unusedSectionVars false

def w04_OpTwice (l0 : List PairD) (p1 : OpD) : Bool :=
  bnd (w04_live) fun yr29 => bnd (op_Writes p1) fun yr39 => if yr39 = true then bnd (op_Apply l0 ([p1])) fun yr53 => bnd (op_Apply l0 ([p1, p1])) fun yr78 => if yr29 = true then if yr53.2.2 = yr78.2.2 then if yr53.2.2 = 0 then bnd (r04_SameMap yr53.1 yr78.1) fun yr103 => if yr103 = true then if ((List.length yr53.2.1 : Nat) : Int) = 1 then decide (((List.length yr78.2.1 : Nat) : Int) = 2) else false else false else true else false else false else yr29

set_option maxRecDepth 100000 in
theorem w04_OpTwice_ok (w : World) (D : Nat → Prop) (A0 : Option Addr) (n0 c0 : Nat) (l0 : List PairD) (p1 : OpD) (r0 : Bool) (H : Own w D w []) (hx0 : Ro w D fun w' => Rds w' 2 A0 n0 (List.flatMap PairD.cells l0)) (hn0 : n0 = List.length l0) (hl0 : List.length l0 * 32 ≤ 211106232532992) (hh0 : List.length l0 * 32 ≤ 140737488351232) (hr : w04_OpTwice l0 p1 = r0) :
    Calls Try.prog 8 #[.slice A0 n0 c0, .agg (OpD.cells p1).toArray] w (Ret fun v w' => v = .bool r0 ∧ Own w D w' []) := by
  subst hn0
  refine Calls.body (args := [.slice A0 (List.length l0) c0, .agg (OpD.cells p1).toArray]) Try.func8 rfl rfl rfl ?_
  show Wp _ _ _ [(0, .slice A0 (List.length l0) c0), (1, .agg (OpD.cells p1).toArray)] _ _
  refine Wp.seq (Wp.region ?_)
  refine WL.do rfl (Do.newP (cs := (OpD.cells p1)) (t := 23) H rfl rfl (fun _ => by kernel_rfl) ?_)
  intro g21 w22 H23
  replace H23 : Own w D w22 [blk g21 (OpD.cells p1) 23] := H23
  refine As rfl rfl (WL.nil (Fin.then (Wp.seq (Wp.region ?_))))
  obtain ⟨r29, hr30⟩ : ∃ q, w04_live = q := ⟨_, rfl⟩
  obtain ⟨D24, HP25, ro26, bk27, rr28⟩ := Own.enter0 H23
  refine WL.do rfl (Do.call Try.call10 rfl (w04_live_ok _ _ r29 HP25 hr30) ?_)
  rintro _ w31 ⟨rfl, HQ32⟩
  have H33 : Own w D w31 [blk g21 (OpD.cells p1) 23] := bk27 _ _ HQ32
  refine As rfl rfl (WL.nil (Fin.then (Wp.seq (Wp.seq (Wp.region (WL.val (v := .agg (OpD.cells p1).toArray) rfl (Yl.load rfl (Lds.agg (cs := (OpD.cells p1)) Try.isAgg23 Try.sizeOf23 ((H33.cls (i := 0) rfl).lit (k := 0) (m := 6) rfl))) ?_))))))
  obtain ⟨r39, hr40⟩ : ∃ q, op_Writes p1 = q := ⟨_, rfl⟩
  obtain ⟨D34, HP35, ro36, bk37, rr38⟩ := Own.enter0 H33
  refine WL.do rfl (Do.call Try.call21 rfl (op_Writes_ok _ _ p1 r39 HP35 hr40) ?_)
  rintro _ w41 ⟨rfl, HQ42⟩
  have H43 : Own w D w41 [blk g21 (OpD.cells p1) 23] := bk37 _ _ HQ42
  refine Kn (v := .bool (!r39)) rfl rfl rfl (fun _ => by kernel_rfl) (WL.nil (Fin.then ?_))
  rcases Bool.eq_false_or_eq_true (r39) with h44 | h44
  refine Wp.cond0 rfl (congrArg not h44) (Wp.skip (Fin.then (Wp.seq (Wp.region (Mv rfl rfl (WL.val (v := .agg (OpD.cells p1).toArray) rfl (Yl.load rfl (Lds.agg (cs := (OpD.cells p1)) Try.isAgg23 Try.sizeOf23 ((H43.cls (i := 0) rfl).lit (k := 0) (m := 6) rfl))) ?_))))))
  refine WL.do rfl (Do.newRow (cs := (OpD.cells p1)) (t := 23) (sz := 6) (m := 1) H43 rfl rfl (fun _ => by kernel_rfl) rfl (by decide) ?_)
  intro A45 w46 H47
  replace H47 : Own w D w46 [row A45 1 1 (List.flatMap OpD.cells ([p1])) 23 6, blk g21 (OpD.cells p1) 23] := H47
  obtain ⟨⟨r53, r54, r55⟩, hr56⟩ : ∃ q : (List PairD) × (List ResultT) × Int, op_Apply l0 ([p1]) = q := ⟨_, rfl⟩
  obtain ⟨D48, HP49, ro50, bk51, rr52⟩ := Own.enter0 H47
  refine WL.do rfl (Do.call Try.call23 rfl (op_Apply_ok _ _ A0 (List.length l0) c0 l0 A45 1 1 ([p1]) r53 r54 r55 HP49 (ro50 _ hx0) rfl (by omega) (rr52 _ 0 _ rfl row_rds) rfl (by simp) (by first | omega | (simp only [List.length_cons, List.length_nil]; done) | (simp only [List.length_cons, List.length_nil]; omega)) hr56) ?_)
  rintro _ w57 ⟨A60, c61, A62, c63, d64, rfl, HQ58, hd65, hk66⟩
  have H59 : Own w D w57 [row A60 (List.length r53) c61 (List.flatMap PairD.cells r53) 48 2, row A62 (List.length r54) c63 (List.flatMap ResultD.cells d64) 50 3, sepL (List.flatMap ResultD.own d64), row A45 1 1 (List.flatMap OpD.cells ([p1])) 23 6, blk g21 (OpD.cells p1) 23] := bk51 _ _ HQ58
  have hl67 := abs_len hd65
  have hb68 := H59.rowC (i := 0) rfl
  have hb69 := H59.rowC (i := 1) rfl
  replace hk66 : List.length r53 ≤ List.length l0 + 1 := hk66
  refine Mv rfl rfl (Kn (v := .slice A60 (List.length r53) c61) rfl rfl rfl (fun _ => by kernel_rfl) (Kn (v := .slice A62 (List.length r54) c63) rfl rfl rfl (fun _ => by kernel_rfl) (Kn (v := .int .i64 r55) rfl rfl rfl (fun _ => by kernel_rfl) (As rfl rfl (As rfl rfl (As rfl rfl (WL.nil (Fin.then (Wp.seq (Wp.region (Mv rfl rfl (WL.val (v := .agg (OpD.cells p1).toArray) rfl (Yl.load rfl (Lds.agg (cs := (OpD.cells p1)) Try.isAgg23 Try.sizeOf23 ((H59.cls (i := 4) rfl).lit (k := 0) (m := 6) rfl))) (WL.val (v := .agg (OpD.cells p1).toArray) rfl (Yl.load rfl (Lds.agg (cs := (OpD.cells p1)) Try.isAgg23 Try.sizeOf23 ((H59.cls (i := 4) rfl).lit (k := 0) (m := 6) rfl))) ?_)))))))))))))
  refine WL.do rfl (Do.newRow (cs := [.int .i64 p1.xKind, .string ⟨List.toArray p1.xKey⟩, .string ⟨List.toArray p1.xValue⟩, .string ⟨List.toArray p1.xLo⟩, .string ⟨List.toArray p1.xHi⟩, .int .i64 p1.xMost, .int .i64 p1.xKind, .string ⟨List.toArray p1.xKey⟩, .string ⟨List.toArray p1.xValue⟩, .string ⟨List.toArray p1.xLo⟩, .string ⟨List.toArray p1.xHi⟩, .int .i64 p1.xMost]) (t := 23) (sz := 6) (m := 2) H59 rfl rfl (fun _ => by kernel_rfl) rfl (by decide) ?_)
  intro A70 w71 H72
  replace H72 : Own w D w71 [row A70 2 2 (List.flatMap OpD.cells ([p1, p1])) 23 6, row A60 (List.length r53) c61 (List.flatMap PairD.cells r53) 48 2, row A62 (List.length r54) c63 (List.flatMap ResultD.cells d64) 50 3, sepL (List.flatMap ResultD.own d64), row A45 1 1 (List.flatMap OpD.cells ([p1])) 23 6, blk g21 (OpD.cells p1) 23] := H72
  obtain ⟨⟨r78, r79, r80⟩, hr81⟩ : ∃ q : (List PairD) × (List ResultT) × Int, op_Apply l0 ([p1, p1]) = q := ⟨_, rfl⟩
  obtain ⟨D73, HP74, ro75, bk76, rr77⟩ := Own.enter0 H72
  refine WL.do rfl (Do.call Try.call23 rfl (op_Apply_ok _ _ A0 (List.length l0) c0 l0 A70 2 2 ([p1, p1]) r78 r79 r80 HP74 (ro75 _ hx0) rfl (by omega) (rr77 _ 0 _ rfl row_rds) rfl (by simp) (by first | omega | (simp only [List.length_cons, List.length_nil]; done) | (simp only [List.length_cons, List.length_nil]; omega)) hr81) ?_)
  rintro _ w82 ⟨A85, c86, A87, c88, d89, rfl, HQ83, hd90, hk91⟩
  have H84 : Own w D w82 [row A85 (List.length r78) c86 (List.flatMap PairD.cells r78) 48 2, row A87 (List.length r79) c88 (List.flatMap ResultD.cells d89) 50 3, sepL (List.flatMap ResultD.own d89), row A70 2 2 (List.flatMap OpD.cells ([p1, p1])) 23 6, row A60 (List.length r53) c61 (List.flatMap PairD.cells r53) 48 2, row A62 (List.length r54) c63 (List.flatMap ResultD.cells d64) 50 3, sepL (List.flatMap ResultD.own d64), row A45 1 1 (List.flatMap OpD.cells ([p1])) 23 6, blk g21 (OpD.cells p1) 23] := bk76 _ _ HQ83
  have hl92 := abs_len hd90
  have hb93 := H84.rowC (i := 0) rfl
  have hb94 := H84.rowC (i := 1) rfl
  replace hk91 : List.length r78 ≤ List.length l0 + 2 := hk91
  refine Mv rfl rfl (Kn (v := .slice A85 (List.length r78) c86) rfl rfl rfl (fun _ => by kernel_rfl) (Kn (v := .slice A87 (List.length r79) c88) rfl rfl rfl (fun _ => by kernel_rfl) (Kn (v := .int .i64 r80) rfl rfl rfl (fun _ => by kernel_rfl) (As rfl rfl (As rfl rfl (As rfl rfl (WL.nil (Fin.then (Wp.seq (Wp.region (Mv rfl rfl (Mv rfl rfl ?_))))))))))))
  rcases Bool.eq_false_or_eq_true (r29) with h95 | h95
  refine WL.valG (v := .int .i64 r55) rfl rfl h95 rfl (Yl.move rfl) (WL.valG (v := .int .i64 r80) rfl rfl h95 rfl (Yl.move rfl) (WL.valG (v := .bool (decide (r55 = r80))) rfl rfl h95 rfl (Yl.kern rfl rfl (fun _ => by kernel_rfl)) (WL.val (v := .bool (decide (r55 = r80))) rfl (Yl.pickT rfl h95 rfl) (Mv rfl rfl ?_))))
  by_cases h96 : r55 = r80
  refine WL.valG (v := .int .i64 r55) rfl rfl (decide_eq_true h96) rfl (Yl.move rfl) (WL.valG (v := .bool (decide (¬ (r55 = 0)))) rfl rfl (decide_eq_true h96) rfl (Yl.bool (e := !(decide (r55 = 0))) (Yl.kern rfl rfl (fun _ => by kernel_rfl)) decide_not.symm) (WL.valG (v := .bool (decide (¬ (r55 = 0)))) rfl rfl (decide_eq_true h96) rfl (Yl.move rfl) ?_))
  by_cases h97 : r55 = 0
  refine WL.valG (v := .slice A60 (List.length r53) c61) rfl rfl (decide_eq_false (not_not_intro h97)) rfl (Yl.move rfl) (WL.valG (v := .slice A85 (List.length r78) c86) rfl rfl (decide_eq_false (not_not_intro h97)) rfl (Yl.move rfl) ?_)
  obtain ⟨r103, hr104⟩ : ∃ q, r04_SameMap r53 r78 = q := ⟨_, rfl⟩
  obtain ⟨D98, HP99, ro100, bk101, rr102⟩ := Own.enter0 H84
  refine WL.doG rfl rfl (decide_eq_false (not_not_intro h97)) rfl (Do.call Try.call25 rfl (r04_SameMap_ok _ _ A60 (List.length r53) c61 r53 A85 (List.length r78) c86 r78 r103 HP99 (rr102 _ 4 _ rfl row_rds) rfl (by omega) (rr102 _ 0 _ rfl row_rds) rfl (by omega) hr104) ?_)
  rintro _ w105 ⟨rfl, HQ106⟩
  have H107 : Own w D w105 [row A85 (List.length r78) c86 (List.flatMap PairD.cells r78) 48 2, row A87 (List.length r79) c88 (List.flatMap ResultD.cells d89) 50 3, sepL (List.flatMap ResultD.own d89), row A70 2 2 (List.flatMap OpD.cells ([p1, p1])) 23 6, row A60 (List.length r53) c61 (List.flatMap PairD.cells r53) 48 2, row A62 (List.length r54) c63 (List.flatMap ResultD.cells d64) 50 3, sepL (List.flatMap ResultD.own d64), row A45 1 1 (List.flatMap OpD.cells ([p1])) 23 6, blk g21 (OpD.cells p1) 23] := bk101 _ _ HQ106
  refine WL.valG (v := .bool r103) rfl rfl (decide_eq_false (not_not_intro h97)) rfl (Yl.move rfl) ?_
  rcases Bool.eq_false_or_eq_true (r103) with h108 | h108
  refine WL.valG (v := .slice A62 (List.length r54) c63) rfl rfl h108 rfl (Yl.move rfl) (WL.valG (v := .int .i64 ((List.length r54 : Nat) : Int)) rfl rfl h108 rfl (Yl.kern rfl rfl (fun _ => by kernel_rfl)) (WL.valG (v := .bool (decide (((List.length r54 : Nat) : Int) = 1))) rfl rfl h108 rfl (Yl.kern rfl rfl (fun _ => by kernel_rfl)) (WL.valG (v := .bool (decide (((List.length r54 : Nat) : Int) = 1))) rfl rfl (decide_eq_false (not_not_intro h97)) rfl (Yl.pickT rfl h108 rfl) (WL.valG (v := .bool (decide (((List.length r54 : Nat) : Int) = 1))) rfl rfl (decide_eq_false (not_not_intro h97)) rfl (Yl.move rfl) ?_))))
  by_cases h109 : ((List.length r54 : Nat) : Int) = 1
  refine WL.valG (v := .slice A87 (List.length r79) c88) rfl rfl (decide_eq_true h109) rfl (Yl.move rfl) (WL.valG (v := .int .i64 ((List.length r79 : Nat) : Int)) rfl rfl (decide_eq_true h109) rfl (Yl.kern rfl rfl (fun _ => by kernel_rfl)) (WL.valG (v := .bool (decide (((List.length r79 : Nat) : Int) = 2))) rfl rfl (decide_eq_true h109) rfl (Yl.kern rfl rfl (fun _ => by kernel_rfl)) (WL.valG (v := .bool (decide (((List.length r79 : Nat) : Int) = 2))) rfl rfl (decide_eq_false (not_not_intro h97)) rfl (Yl.pickT rfl (decide_eq_true h109) rfl) (WL.valG (v := .bool (decide (((List.length r79 : Nat) : Int) = 2))) rfl rfl (decide_eq_true h96) rfl (Yl.pickF rfl (decide_eq_false (not_not_intro h97)) rfl) (WL.val (v := .bool (decide (((List.length r79 : Nat) : Int) = 2))) rfl (Yl.pickT rfl (decide_eq_true h96) rfl) (As rfl rfl (WL.nil (Fin.then (Wp.ret (Fin.res (res1 rfl rfl) ?_))))))))))
  have H110 : Own w D w105 [] := H107.pick [] (by decide) rfl
  have e : w04_OpTwice l0 p1 = decide (((List.length r79 : Nat) : Int) = 2) := Eq.trans (bnd_of hr30) (Eq.trans (bnd_of hr40) (Eq.trans (if_pos h44) (Eq.trans (bnd_of hr56) (Eq.trans (bnd_of hr81) (Eq.trans (if_pos h95) (Eq.trans (if_pos h96) (Eq.trans (if_pos h97) (Eq.trans (bnd_of hr104) (Eq.trans (if_pos h108) (if_pos h109))))))))))
  obtain rfl := e.symm.trans hr
  exact ⟨rfl, H110⟩
  refine Sk rfl rfl (decide_eq_false h109) rfl (Sk rfl rfl (decide_eq_false h109) rfl (Sk rfl rfl (decide_eq_false h109) rfl (WL.valG (v := .bool false) rfl rfl (decide_eq_false (not_not_intro h97)) rfl (Yl.pickF rfl (decide_eq_false h109) rfl) (WL.valG (v := .bool false) rfl rfl (decide_eq_true h96) rfl (Yl.pickF rfl (decide_eq_false (not_not_intro h97)) rfl) (WL.val (v := .bool false) rfl (Yl.pickT rfl (decide_eq_true h96) rfl) (As rfl rfl (WL.nil (Fin.then (Wp.ret (Fin.res (res1 rfl rfl) ?_))))))))))
  have H111 : Own w D w105 [] := H107.pick [] (by decide) rfl
  have e : w04_OpTwice l0 p1 = false := Eq.trans (bnd_of hr30) (Eq.trans (bnd_of hr40) (Eq.trans (if_pos h44) (Eq.trans (bnd_of hr56) (Eq.trans (bnd_of hr81) (Eq.trans (if_pos h95) (Eq.trans (if_pos h96) (Eq.trans (if_pos h97) (Eq.trans (bnd_of hr104) (Eq.trans (if_pos h108) (if_neg h109))))))))))
  obtain rfl := e.symm.trans hr
  exact ⟨rfl, H111⟩
  refine Sk rfl rfl h108 rfl (Sk rfl rfl h108 rfl (Sk rfl rfl h108 rfl (WL.valG (v := .bool false) rfl rfl (decide_eq_false (not_not_intro h97)) rfl (Yl.pickF rfl h108 rfl) (WL.valG (v := .bool false) rfl rfl (decide_eq_false (not_not_intro h97)) rfl (Yl.move rfl) (Sk rfl rfl rfl rfl (Sk rfl rfl rfl rfl (Sk rfl rfl rfl rfl (WL.valG (v := .bool false) rfl rfl (decide_eq_false (not_not_intro h97)) rfl (Yl.pickF rfl rfl rfl) (WL.valG (v := .bool false) rfl rfl (decide_eq_true h96) rfl (Yl.pickF rfl (decide_eq_false (not_not_intro h97)) rfl) (WL.val (v := .bool false) rfl (Yl.pickT rfl (decide_eq_true h96) rfl) (As rfl rfl (WL.nil (Fin.then (Wp.ret (Fin.res (res1 rfl rfl) ?_)))))))))))))))
  have H112 : Own w D w105 [] := H107.pick [] (by decide) rfl
  have e : w04_OpTwice l0 p1 = false := Eq.trans (bnd_of hr30) (Eq.trans (bnd_of hr40) (Eq.trans (if_pos h44) (Eq.trans (bnd_of hr56) (Eq.trans (bnd_of hr81) (Eq.trans (if_pos h95) (Eq.trans (if_pos h96) (Eq.trans (if_pos h97) (Eq.trans (bnd_of hr104) (ifF h108)))))))))
  obtain rfl := e.symm.trans hr
  exact ⟨rfl, H112⟩
  refine Sk rfl rfl (decide_eq_true h97) rfl (Sk rfl rfl (decide_eq_true h97) rfl (Sk rfl rfl (decide_eq_true h97) rfl (Sk rfl rfl (decide_eq_true h97) rfl (WL.skipU rfl rfl rfl (WL.skipU rfl rfl rfl (WL.skipU rfl rfl rfl (Sk rfl rfl (decide_eq_true h97) rfl (Sk rfl rfl (decide_eq_true h97) rfl (WL.skipU rfl rfl rfl (WL.skipU rfl rfl rfl (WL.skipU rfl rfl rfl (Sk rfl rfl (decide_eq_true h97) rfl (WL.valG (v := .bool true) rfl rfl (decide_eq_true h96) rfl (Yl.pickT rfl (decide_eq_true h97) rfl) (WL.val (v := .bool true) rfl (Yl.pickT rfl (decide_eq_true h96) rfl) (As rfl rfl (WL.nil (Fin.then (Wp.ret (Fin.res (res1 rfl rfl) ?_)))))))))))))))))))
  have H113 : Own w D w82 [] := H84.pick [] (by decide) rfl
  have e : w04_OpTwice l0 p1 = true := Eq.trans (bnd_of hr30) (Eq.trans (bnd_of hr40) (Eq.trans (if_pos h44) (Eq.trans (bnd_of hr56) (Eq.trans (bnd_of hr81) (Eq.trans (if_pos h95) (Eq.trans (if_pos h96) (if_neg h97)))))))
  obtain rfl := e.symm.trans hr
  exact ⟨rfl, H113⟩
  refine Sk rfl rfl (decide_eq_false h96) rfl (Sk rfl rfl (decide_eq_false h96) rfl (Sk rfl rfl (decide_eq_false h96) rfl (WL.skipU rfl rfl rfl (WL.skipU rfl rfl rfl (WL.skipU rfl rfl rfl (WL.skipU rfl rfl rfl (WL.skipU rfl rfl rfl (WL.skipU rfl rfl rfl (WL.skipU rfl rfl rfl (WL.skipU rfl rfl rfl (WL.skipU rfl rfl rfl (WL.skipU rfl rfl rfl (WL.skipU rfl rfl rfl (WL.skipU rfl rfl rfl (WL.skipU rfl rfl rfl (Sk rfl rfl (decide_eq_false h96) rfl (WL.val (v := .bool false) rfl (Yl.pickF rfl (decide_eq_false h96) rfl) (As rfl rfl (WL.nil (Fin.then (Wp.ret (Fin.res (res1 rfl rfl) ?_))))))))))))))))))))))
  have H114 : Own w D w82 [] := H84.pick [] (by decide) rfl
  have e : w04_OpTwice l0 p1 = false := Eq.trans (bnd_of hr30) (Eq.trans (bnd_of hr40) (Eq.trans (if_pos h44) (Eq.trans (bnd_of hr56) (Eq.trans (bnd_of hr81) (Eq.trans (if_pos h95) (if_neg h96))))))
  obtain rfl := e.symm.trans hr
  exact ⟨rfl, H114⟩
  refine Sk rfl rfl h95 rfl (Sk rfl rfl h95 rfl (Sk rfl rfl h95 rfl (WL.val (v := .bool false) rfl (Yl.pickF rfl h95 rfl) (Mv rfl rfl (Sk rfl rfl rfl rfl (Sk rfl rfl rfl rfl (Sk rfl rfl rfl rfl (WL.skipU rfl rfl rfl (WL.skipU rfl rfl rfl (WL.skipU rfl rfl rfl (WL.skipU rfl rfl rfl (WL.skipU rfl rfl rfl (WL.skipU rfl rfl rfl (WL.skipU rfl rfl rfl (WL.skipU rfl rfl rfl (WL.skipU rfl rfl rfl (WL.skipU rfl rfl rfl (WL.skipU rfl rfl rfl (WL.skipU rfl rfl rfl (WL.skipU rfl rfl rfl (Sk rfl rfl rfl rfl (WL.val (v := .bool false) rfl (Yl.pickF rfl rfl rfl) (As rfl rfl (WL.nil (Fin.then (Wp.ret (Fin.res (res1 rfl rfl) ?_)))))))))))))))))))))))))))
  have H115 : Own w D w82 [] := H84.pick [] (by decide) rfl
  have e : w04_OpTwice l0 p1 = false := Eq.trans (bnd_of hr30) (Eq.trans (bnd_of hr40) (Eq.trans (if_pos h44) (Eq.trans (bnd_of hr56) (Eq.trans (bnd_of hr81) (ifF h95)))))
  obtain rfl := e.symm.trans hr
  exact ⟨rfl, H115⟩
  refine Wp.cond1 rfl (congrArg not h44) (Wp.seq (Wp.region (Mv rfl rfl (As rfl rfl (WL.nil (Fin.then (Wp.ret (Fin.thenR (Fin.res (res1 rfl rfl) ?_)))))))))
  have H116 : Own w D w41 [] := H43.pick [] (by decide) rfl
  have e : w04_OpTwice l0 p1 = r29 := Eq.trans (bnd_of hr30) (Eq.trans (bnd_of hr40) (ifF h44))
  obtain rfl := e.symm.trans hr
  exact ⟨rfl, H116⟩
end Go.Proofs.Ytcognlpfeoabgaa
