/-
  buffer: the law BufferTells
-/
import Derived.Test.YtblpdbnklopchaaBp
namespace Go.Proofs.Ytblpdbnklopchaa
open Go.RowKit
set_option linter.unusedVariables false
set_option linter.unusedSectionVars false
set_option linter.unusedSimpArgs false

def w12_BufferTells (l0 : List PairD) (l1 : List EntryD) (p2 : List UInt8) : Bool :=
  bnd (w12_live) fun yr26 => bnd (buffer_Apply l0 l1) fun yr36 => if yr36.2 = 0 then bnd (r02_CheckKey p2) fun yr52 => if yr52 = 0 then bnd (op_CheckMap l0) fun yr64 => if yr64 = 0 then bnd (buffer_Find l1 p2) fun yr75 => bnd (if yr75.2.2 = true then (yr75.1, yr75.2.1) else bnd (r04_Find l0 p2) fun yr91 => (yr91.1, yr91.2)) fun sJrbbtbtbtbJ => bnd (r04_Find yr36.1 p2) fun yr107 => if yr26 = true then if sJrbbtbtbtbJ.1 = yr107.1 then decide (sJrbbtbtbtbJ.2 = yr107.2) else false else false else yr26 else yr26 else yr26

set_option maxRecDepth 100000 in
set_option maxHeartbeats 1000000 in
theorem w12_BufferTells_ok (w : World) (D : Nat → Prop) (A0 : Option Addr) (n0 c0 : Nat) (l0 : List PairD) (A1 : Option Addr) (n1 c1 : Nat) (l1 : List EntryD) (p2 : List UInt8) (r0 : Bool) (H : Own w D w []) (hx0 : Ro w D fun w' => Rds w' 2 A0 n0 (List.flatMap PairD.cells l0)) (hn0 : n0 = l0.length) (hl0 : l0.length * 32 ≤ 211106232532992) (hx1 : Ro w D fun w' => Rds w' 7 A1 n1 (List.flatMap EntryD.cells l1)) (hn1 : n1 = l1.length) (hl1 : l1.length * 88 ≤ 211106232532992) (hh0 : l0.length * 32 ≤ 140737488351232) (hh1 : l1.length * 88 ≤ 140737488351232) (hh2 : p2.length ≤ 140737488351232) (hr : w12_BufferTells l0 l1 p2 = r0) :
    Calls Try.prog 5 #[.slice A0 n0 c0, .slice A1 n1 c1, .string ⟨List.toArray p2⟩] w (Ret fun v w' => v = .bool r0 ∧ Own w D w' []) := by
  subst hn0 hn1
  refine Calls.body (args := [.slice A0 l0.length c0, .slice A1 l1.length c1, .string ⟨List.toArray p2⟩]) Try.func5 rfl rfl rfl ?_
  show Wp _ _ _ [(0, .slice A0 l0.length c0), (1, .slice A1 l1.length c1), (2, .string ⟨List.toArray p2⟩)] _ _
  refine Wp.seq (Wp.region (As rfl rfl (WL.nil (Fin.then (Wp.seq (Wp.region ?_))))))
  obtain ⟨r26, hr27⟩ : ∃ q, w12_live = q := ⟨_, rfl⟩
  obtain ⟨D21, HP22, ro23, bk24, rr25⟩ := Own.enter0 H
  refine WL.do rfl (Do.call Try.call7 rfl (w12_live_ok _ _ r26 HP22 hr27) ?_)
  rintro _ w28 ⟨rfl, HQ29⟩
  have H30 := bk24 _ _ HQ29
  refine As rfl rfl (WL.nil (Fin.then (Wp.seq (Wp.region (Mv rfl rfl (Mv rfl rfl ?_))))))
  obtain ⟨⟨r36, r37⟩, hr38⟩ : ∃ q : (List PairD) × Int, buffer_Apply l0 l1 = q := ⟨_, rfl⟩
  obtain ⟨D31, HP32, ro33, bk34, rr35⟩ := Own.enter0 H30
  refine WL.do rfl (Do.call Try.call13 rfl (buffer_Apply_ok _ _ A0 l0.length c0 l0 A1 l1.length c1 l1 r36 r37 HP32 (ro33 _ hx0) rfl (by omega) (ro33 _ hx1) rfl (by omega) (by first | omega | (simp only [List.length_cons, List.length_nil]; done) | (simp only [List.length_cons, List.length_nil, List.length_take, List.length_drop]; omega)) hr38) ?_)
  rintro _ w39 ⟨A42, c43, rfl, HQ40, hk44⟩
  have H41 := bk34 _ _ HQ40
  have hb45 := H41.rowC (i := 0) rfl
  replace hk44 : r36.length ≤ l0.length + l1.length := hk44
  refine Mv rfl rfl (Kn (v := .slice A42 r36.length c43) rfl rfl rfl (fun _ => by kernel_rfl) (Kn (v := .int .i64 r37) rfl rfl rfl (fun _ => by kernel_rfl) (As rfl rfl (As rfl rfl (WL.nil (Fin.then (Wp.seq (Wp.seq (Wp.region (Mv rfl rfl (WL.val (v := .bool (decide (¬ (r37 = 0)))) rfl (Yl.bool (e := !(decide (r37 = 0))) (Yl.kern rfl rfl (fun _ => by kernel_rfl)) decide_not.symm) (Mv rfl rfl ?_))))))))))))
  by_cases h46 : r37 = 0
  refine WL.valG (v := .string ⟨List.toArray p2⟩) rfl rfl (decide_eq_false (not_not_intro h46)) rfl (Yl.move rfl) ?_
  obtain ⟨r52, hr53⟩ : ∃ q, r02_CheckKey p2 = q := ⟨_, rfl⟩
  obtain ⟨D47, HP48, ro49, bk50, rr51⟩ := Own.enter0 H41
  refine WL.doG rfl rfl (decide_eq_false (not_not_intro h46)) rfl (Do.call Try.call17 rfl (r02_CheckKey_ok _ _ p2 r52 HP48 hr53) ?_)
  rintro _ w54 ⟨rfl, HQ55, hk57⟩
  have H56 := bk50 _ _ HQ55
  replace hk57 : ¬ (r52 = 0) ∨ (1 ≤ p2.length ∧ p2.length ≤ 12) := hk57
  refine WL.valG (v := .bool (decide (¬ (r52 = 0)))) rfl rfl (decide_eq_false (not_not_intro h46)) rfl (Yl.bool (e := !(decide (r52 = 0))) (Yl.kern rfl rfl (fun _ => by kernel_rfl)) decide_not.symm) (WL.val (v := .bool (decide (¬ (r52 = 0)))) rfl (Yl.pickF rfl (decide_eq_false (not_not_intro h46)) rfl) (Mv rfl rfl ?_))
  by_cases h58 : r52 = 0
  refine WL.valG (v := .slice A0 l0.length c0) rfl rfl (decide_eq_false (not_not_intro h58)) rfl (Yl.move rfl) ?_
  obtain ⟨r64, hr65⟩ : ∃ q, op_CheckMap l0 = q := ⟨_, rfl⟩
  obtain ⟨D59, HP60, ro61, bk62, rr63⟩ := Own.enter0 H56
  refine WL.doG rfl rfl (decide_eq_false (not_not_intro h58)) rfl (Do.call Try.call18 rfl (op_CheckMap_ok _ _ A0 l0.length c0 l0 r64 HP60 (ro61 _ hx0) rfl (by omega) hr65) ?_)
  rintro _ w66 ⟨rfl, HQ67⟩
  have H68 := bk62 _ _ HQ67
  refine WL.valG (v := .bool (decide (¬ (r64 = 0)))) rfl rfl (decide_eq_false (not_not_intro h58)) rfl (Yl.bool (e := !(decide (r64 = 0))) (Yl.kern rfl rfl (fun _ => by kernel_rfl)) decide_not.symm) (WL.val (v := .bool (decide (¬ (r64 = 0)))) rfl (Yl.pickF rfl (decide_eq_false (not_not_intro h58)) rfl) (WL.nil (Fin.then ?_)))
  by_cases h69 : r64 = 0
  refine Wp.cond0 rfl (decide_eq_false (not_not_intro h69)) (Wp.skip (Fin.then (Wp.seq (Wp.region (Mv rfl rfl (Mv rfl rfl ?_))))))
  obtain ⟨⟨r75, r76, r77⟩, hr78⟩ : ∃ q : (List UInt8) × Bool × Bool, buffer_Find l1 p2 = q := ⟨_, rfl⟩
  obtain ⟨D70, HP71, ro72, bk73, rr74⟩ := Own.enter0 H68
  refine WL.do rfl (Do.call Try.call8 rfl (buffer_Find_ok _ _ A1 l1.length c1 l1 p2 r75 r76 r77 HP71 (ro72 _ hx1) rfl (by omega) hr78) ?_)
  rintro _ w79 ⟨rfl, HQ80⟩
  have H81 := bk73 _ _ HQ80
  refine Mv rfl rfl (Kn (v := .string ⟨List.toArray r75⟩) rfl rfl rfl (fun _ => by kernel_rfl) (Kn (v := .bool r76) rfl rfl rfl (fun _ => by kernel_rfl) (Kn (v := .bool r77) rfl rfl rfl (fun _ => by kernel_rfl) (As rfl rfl (As rfl rfl (As rfl rfl (WL.nil (Fin.then (Wp.seq (Wp.seq (Wp.region (Mv rfl rfl (Kn (v := .bool (!r77)) rfl rfl rfl (fun _ => by kernel_rfl) (WL.nil (Fin.then ?_)))))))))))))))
  refine Wp.joinT (ι := (List UInt8) × Bool) (fun i => [(10, .string ⟨List.toArray i.1⟩), (11, .bool i.2), (8, .slice A42 r36.length c43), (7, .bool r26), (6, .bool false), (2, .string ⟨List.toArray p2⟩)]) (fun (i : (List UInt8) × Bool) w' => Own w D w' [row A42 r36.length c43 (List.flatMap PairD.cells r36) 76 2] ∧ ((if r77 = true then (r75, r76) else bnd (r04_Find l0 p2) fun yr91 => (yr91.1, yr91.2)) = (i.1, i.2))) ?_ ?_
  rcases Bool.eq_false_or_eq_true (r77) with h84 | h84
  refine Wp.cond0 rfl (congrArg not h84) (Wp.skip ?_)
  have H85 := H81.pick [0] (by decide) rfl
  exact Fin.join (r75, r76) ⟨rfl, rfl, rfl, rfl, rfl, rfl, trivial⟩ ⟨H85, (show (if r77 = true then (r75, r76) else bnd (r04_Find l0 p2) fun yr91 => (yr91.1, yr91.2)) = (r75, r76) from if_pos h84)⟩
  refine Wp.cond1 rfl (congrArg not h84) (Wp.region (Mv rfl rfl (Mv rfl rfl ?_)))
  obtain ⟨⟨r91, r92⟩, hr93⟩ : ∃ q : (List UInt8) × Bool, r04_Find l0 p2 = q := ⟨_, rfl⟩
  obtain ⟨D86, HP87, ro88, bk89, rr90⟩ := Own.enter0 H81
  refine WL.do rfl (Do.call Try.call19 rfl (r04_Find_ok _ _ A0 l0.length c0 l0 p2 r91 r92 HP87 (ro88 _ hx0) rfl (by omega) hr93) ?_)
  rintro _ w94 ⟨rfl, HQ95⟩
  have H96 := bk89 _ _ HQ95
  refine Mv rfl rfl (Kn (v := .string ⟨List.toArray r91⟩) rfl rfl rfl (fun _ => by kernel_rfl) (Kn (v := .bool r92) rfl rfl rfl (fun _ => by kernel_rfl) (As rfl rfl (As rfl rfl (WL.nil ?_)))))
  have H97 := H96.pick [0] (by decide) rfl
  exact Fin.join (r91, r92) ⟨rfl, rfl, rfl, rfl, rfl, rfl, trivial⟩ ⟨H97, (show (if r77 = true then (r75, r76) else bnd (r04_Find l0 p2) fun yr91 => (yr91.1, yr91.2)) = (r91, r92) from Eq.trans (ifF h84) (bnd_of hr93))⟩
  rintro ⟨s82, b83⟩ w98 ⟨H99, hf100⟩
  show Wp _ _ _ [(10, .string ⟨List.toArray s82⟩), (11, .bool b83), (8, .slice A42 r36.length c43), (7, .bool r26), (6, .bool false), (2, .string ⟨List.toArray p2⟩)] _ _
  replace hf100 : (if r77 = true then (r75, r76) else bnd (r04_Find l0 p2) fun yr91 => (yr91.1, yr91.2)) = (s82, b83) := hf100
  have hj101 := hf100
  refine Wp.seq (Wp.region (Mv rfl rfl (Mv rfl rfl ?_)))
  obtain ⟨⟨r107, r108⟩, hr109⟩ : ∃ q : (List UInt8) × Bool, r04_Find r36 p2 = q := ⟨_, rfl⟩
  obtain ⟨D102, HP103, ro104, bk105, rr106⟩ := Own.enter0 H99
  refine WL.do rfl (Do.call Try.call19 rfl (r04_Find_ok _ _ A42 r36.length c43 r36 p2 r107 r108 HP103 (rr106 _ 0 _ rfl row_rds) rfl (by omega) hr109) ?_)
  rintro _ w110 ⟨rfl, HQ111⟩
  have H112 := bk105 _ _ HQ111
  refine Mv rfl rfl (Kn (v := .string ⟨List.toArray r107⟩) rfl rfl rfl (fun _ => by kernel_rfl) (Kn (v := .bool r108) rfl rfl rfl (fun _ => by kernel_rfl) (As rfl rfl (As rfl rfl (WL.nil (Fin.then (Wp.seq (Wp.region (Mv rfl rfl (Mv rfl rfl ?_))))))))))
  rcases Bool.eq_false_or_eq_true (r26) with h113 | h113
  refine WL.valG (v := .string ⟨List.toArray s82⟩) rfl rfl h113 rfl (Yl.move rfl) (WL.valG (v := .string ⟨List.toArray r107⟩) rfl rfl h113 rfl (Yl.move rfl) (WL.valG (v := .bool (decide (s82 = r107))) rfl rfl h113 rfl (Yl.strEq rfl rfl) (WL.val (v := .bool (decide (s82 = r107))) rfl (Yl.pickT rfl h113 rfl) (Mv rfl rfl ?_))))
  by_cases h114 : s82 = r107
  refine WL.valG (v := .bool b83) rfl rfl (decide_eq_true h114) rfl (Yl.move rfl) (WL.valG (v := .bool r108) rfl rfl (decide_eq_true h114) rfl (Yl.move rfl) (WL.valG (v := .bool (decide (b83 = r108))) rfl rfl (decide_eq_true h114) rfl (Yl.bool (e := (b83 == r108)) (Yl.kern rfl rfl (fun _ => by kernel_rfl)) (by first | exact Bool.beq_eq_decide_eq _ _ | (by_cases q : b83 = r108 <;> simp [q]))) (WL.val (v := .bool (decide (b83 = r108))) rfl (Yl.pickT rfl (decide_eq_true h114) rfl) (As rfl rfl (WL.nil (Fin.then (Wp.ret (Fin.res (res1 rfl rfl) ?_))))))))
  have H115 := H112.pick [] (by decide) rfl
  have e : w12_BufferTells l0 l1 p2 = decide (b83 = r108) := Eq.trans (bnd_of hr27) (Eq.trans (bnd_of hr38) (Eq.trans (if_pos h46) (Eq.trans (bnd_of hr53) (Eq.trans (if_pos h58) (Eq.trans (bnd_of hr65) (Eq.trans (if_pos h69) (Eq.trans (bnd_of hr78) (Eq.trans (bnd_of hj101) (Eq.trans (bnd_of hr109) (Eq.trans (if_pos h113) (if_pos h114)))))))))))
  obtain rfl := e.symm.trans hr
  exact ⟨rfl, H115⟩
  refine Sk rfl rfl (decide_eq_false h114) rfl (Sk rfl rfl (decide_eq_false h114) rfl (Sk rfl rfl (decide_eq_false h114) rfl (WL.val (v := .bool false) rfl (Yl.pickF rfl (decide_eq_false h114) rfl) (As rfl rfl (WL.nil (Fin.then (Wp.ret (Fin.res (res1 rfl rfl) ?_))))))))
  have H116 := H112.pick [] (by decide) rfl
  have e : w12_BufferTells l0 l1 p2 = false := Eq.trans (bnd_of hr27) (Eq.trans (bnd_of hr38) (Eq.trans (if_pos h46) (Eq.trans (bnd_of hr53) (Eq.trans (if_pos h58) (Eq.trans (bnd_of hr65) (Eq.trans (if_pos h69) (Eq.trans (bnd_of hr78) (Eq.trans (bnd_of hj101) (Eq.trans (bnd_of hr109) (Eq.trans (if_pos h113) (if_neg h114)))))))))))
  obtain rfl := e.symm.trans hr
  exact ⟨rfl, H116⟩
  refine Sk rfl rfl h113 rfl (Sk rfl rfl h113 rfl (Sk rfl rfl h113 rfl (WL.val (v := .bool false) rfl (Yl.pickF rfl h113 rfl) (Mv rfl rfl (Sk rfl rfl rfl rfl (Sk rfl rfl rfl rfl (Sk rfl rfl rfl rfl (WL.val (v := .bool false) rfl (Yl.pickF rfl rfl rfl) (As rfl rfl (WL.nil (Fin.then (Wp.ret (Fin.res (res1 rfl rfl) ?_)))))))))))))
  have H117 := H112.pick [] (by decide) rfl
  have e : w12_BufferTells l0 l1 p2 = false := Eq.trans (bnd_of hr27) (Eq.trans (bnd_of hr38) (Eq.trans (if_pos h46) (Eq.trans (bnd_of hr53) (Eq.trans (if_pos h58) (Eq.trans (bnd_of hr65) (Eq.trans (if_pos h69) (Eq.trans (bnd_of hr78) (Eq.trans (bnd_of hj101) (Eq.trans (bnd_of hr109) (ifF h113))))))))))
  obtain rfl := e.symm.trans hr
  exact ⟨rfl, H117⟩
  refine Wp.cond1 rfl (decide_eq_true h69) (Wp.seq (Wp.region (Mv rfl rfl (As rfl rfl (WL.nil (Fin.then (Wp.ret (Fin.thenR (Fin.res (res1 rfl rfl) ?_)))))))))
  have H118 := H68.pick [] (by decide) rfl
  have e : w12_BufferTells l0 l1 p2 = r26 := Eq.trans (bnd_of hr27) (Eq.trans (bnd_of hr38) (Eq.trans (if_pos h46) (Eq.trans (bnd_of hr53) (Eq.trans (if_pos h58) (Eq.trans (bnd_of hr65) (if_neg h69))))))
  obtain rfl := e.symm.trans hr
  exact ⟨rfl, H118⟩
  refine Sk rfl rfl (decide_eq_true h58) rfl (Sk rfl rfl (decide_eq_true h58) rfl (Sk rfl rfl (decide_eq_true h58) rfl (WL.val (v := .bool true) rfl (Yl.pickT rfl (decide_eq_true h58) rfl) (WL.nil (Fin.then (Wp.cond1 rfl rfl (Wp.seq (Wp.region (Mv rfl rfl (As rfl rfl (WL.nil (Fin.then (Wp.ret (Fin.thenR (Fin.res (res1 rfl rfl) ?_)))))))))))))))
  have H119 := H56.pick [] (by decide) rfl
  have e : w12_BufferTells l0 l1 p2 = r26 := Eq.trans (bnd_of hr27) (Eq.trans (bnd_of hr38) (Eq.trans (if_pos h46) (Eq.trans (bnd_of hr53) (if_neg h58))))
  obtain rfl := e.symm.trans hr
  exact ⟨rfl, H119⟩
  refine Sk rfl rfl (decide_eq_true h46) rfl (Sk rfl rfl (decide_eq_true h46) rfl (Sk rfl rfl (decide_eq_true h46) rfl (WL.val (v := .bool true) rfl (Yl.pickT rfl (decide_eq_true h46) rfl) (Mv rfl rfl (Sk rfl rfl rfl rfl (Sk rfl rfl rfl rfl (Sk rfl rfl rfl rfl (WL.val (v := .bool true) rfl (Yl.pickT rfl rfl rfl) (WL.nil (Fin.then (Wp.cond1 rfl rfl (Wp.seq (Wp.region (Mv rfl rfl (As rfl rfl (WL.nil (Fin.then (Wp.ret (Fin.thenR (Fin.res (res1 rfl rfl) ?_))))))))))))))))))))
  have H120 := H41.pick [] (by decide) rfl
  have e : w12_BufferTells l0 l1 p2 = r26 := Eq.trans (bnd_of hr27) (Eq.trans (bnd_of hr38) (if_neg h46))
  obtain rfl := e.symm.trans hr
  exact ⟨rfl, H120⟩
end Go.Proofs.Ytblpdbnklopchaa
