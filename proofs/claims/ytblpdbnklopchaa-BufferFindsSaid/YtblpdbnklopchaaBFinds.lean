/-
  buffer: the law BufferFinds
-/
import Derived.Test.YtblpdbnklopchaaBw
namespace Go.Proofs.Ytblpdbnklopchaa
open Go.RowKit
set_option linter.unusedVariables false
set_option linter.unusedSectionVars false
set_option linter.unusedSimpArgs false

def w12_BufferFinds (l0 : List EntryD) (p1 : List UInt8) : Bool :=
  bnd (w12_live) fun yr26 => bnd (buffer_Find l0 p1) fun yr36 => bnd (r12_Find l0 p1) fun yr48 => if yr26 = true then bnd (buffer_Check l0) fun yr61 => bnd (r12_Check l0) fun yr71 => if yr61 = yr71 then if yr36.1 = yr48.1 then if yr36.2.1 = yr48.2.1 then decide (yr36.2.2 = yr48.2.2) else false else false else false else false

set_option maxRecDepth 100000 in
set_option maxHeartbeats 1000000 in
theorem w12_BufferFinds_ok (w : World) (D : Nat → Prop) (A0 : Option Addr) (n0 c0 : Nat) (l0 : List EntryD) (p1 : List UInt8) (r0 : Bool) (H : Own w D w []) (hx0 : Ro w D fun w' => Rds w' 7 A0 n0 (List.flatMap EntryD.cells l0)) (hn0 : n0 = l0.length) (hl0 : l0.length * 88 ≤ 211106232532992) (hh0 : l0.length * 88 ≤ 140737488351232) (hh1 : p1.length ≤ 140737488351232) (hr : w12_BufferFinds l0 p1 = r0) :
    Calls Try.prog 3 #[.slice A0 n0 c0, .string ⟨List.toArray p1⟩] w (Ret fun v w' => v = .bool r0 ∧ Own w D w' []) := by
  subst hn0
  refine Calls.body (args := [.slice A0 l0.length c0, .string ⟨List.toArray p1⟩]) Try.func3 rfl rfl rfl ?_
  show Wp _ _ _ [(0, .slice A0 l0.length c0), (1, .string ⟨List.toArray p1⟩)] _ _
  refine Wp.seq (Wp.region (As rfl rfl (WL.nil (Fin.then (Wp.seq (Wp.region ?_))))))
  obtain ⟨r26, hr27⟩ : ∃ q, w12_live = q := ⟨_, rfl⟩
  obtain ⟨D21, HP22, ro23, bk24, rr25⟩ := Own.enter0 H
  refine WL.do rfl (Do.call Try.call7 rfl (w12_live_ok _ _ r26 HP22 hr27) ?_)
  rintro _ w28 ⟨rfl, HQ29⟩
  have H30 := bk24 _ _ HQ29
  refine As rfl rfl (WL.nil (Fin.then (Wp.seq (Wp.region (Mv rfl rfl (Mv rfl rfl ?_))))))
  obtain ⟨⟨r36, r37, r38⟩, hr39⟩ : ∃ q : (List UInt8) × Bool × Bool, buffer_Find l0 p1 = q := ⟨_, rfl⟩
  obtain ⟨D31, HP32, ro33, bk34, rr35⟩ := Own.enter0 H30
  refine WL.do rfl (Do.call Try.call8 rfl (buffer_Find_ok _ _ A0 l0.length c0 l0 p1 r36 r37 r38 HP32 (ro33 _ hx0) rfl (by omega) hr39) ?_)
  rintro _ w40 ⟨rfl, HQ41⟩
  have H42 := bk34 _ _ HQ41
  refine Mv rfl rfl (Kn (v := .string ⟨List.toArray r36⟩) rfl rfl rfl (fun _ => by kernel_rfl) (Kn (v := .bool r37) rfl rfl rfl (fun _ => by kernel_rfl) (Kn (v := .bool r38) rfl rfl rfl (fun _ => by kernel_rfl) (As rfl rfl (As rfl rfl (As rfl rfl (WL.nil (Fin.then (Wp.seq (Wp.region (Mv rfl rfl (Mv rfl rfl ?_))))))))))))
  obtain ⟨⟨r48, r49, r50⟩, hr51⟩ : ∃ q : (List UInt8) × Bool × Bool, r12_Find l0 p1 = q := ⟨_, rfl⟩
  obtain ⟨D43, HP44, ro45, bk46, rr47⟩ := Own.enter0 H42
  refine WL.do rfl (Do.call Try.call9 rfl (r12_Find_ok _ _ A0 l0.length c0 l0 p1 r48 r49 r50 HP44 (ro45 _ hx0) rfl (by omega) hr51) ?_)
  rintro _ w52 ⟨rfl, HQ53⟩
  have H54 := bk46 _ _ HQ53
  refine Mv rfl rfl (Kn (v := .string ⟨List.toArray r48⟩) rfl rfl rfl (fun _ => by kernel_rfl) (Kn (v := .bool r49) rfl rfl rfl (fun _ => by kernel_rfl) (Kn (v := .bool r50) rfl rfl rfl (fun _ => by kernel_rfl) (As rfl rfl (As rfl rfl (As rfl rfl (WL.nil (Fin.then (Wp.seq (Wp.region (Mv rfl rfl (Mv rfl rfl ?_))))))))))))
  rcases Bool.eq_false_or_eq_true (r26) with h55 | h55
  refine WL.valG (v := .slice A0 l0.length c0) rfl rfl h55 rfl (Yl.move rfl) ?_
  obtain ⟨r61, hr62⟩ : ∃ q, buffer_Check l0 = q := ⟨_, rfl⟩
  obtain ⟨D56, HP57, ro58, bk59, rr60⟩ := Own.enter0 H54
  refine WL.doG rfl rfl h55 rfl (Do.call Try.call10 rfl (buffer_Check_ok _ _ A0 l0.length c0 l0 r61 HP57 (ro58 _ hx0) rfl (by omega) hr62) ?_)
  rintro _ w63 ⟨rfl, HQ64⟩
  have H65 := bk59 _ _ HQ64
  refine WL.valG (v := .slice A0 l0.length c0) rfl rfl h55 rfl (Yl.move rfl) ?_
  obtain ⟨r71, hr72⟩ : ∃ q, r12_Check l0 = q := ⟨_, rfl⟩
  obtain ⟨D66, HP67, ro68, bk69, rr70⟩ := Own.enter0 H65
  refine WL.doG rfl rfl h55 rfl (Do.call Try.call11 rfl (r12_Check_ok _ _ A0 l0.length c0 l0 r71 HP67 (ro68 _ hx0) rfl (by omega) hr72) ?_)
  rintro _ w73 ⟨rfl, HQ74⟩
  have H75 := bk69 _ _ HQ74
  refine WL.valG (v := .bool (decide (r61 = r71))) rfl rfl h55 rfl (Yl.kern rfl rfl (fun _ => by kernel_rfl)) (WL.val (v := .bool (decide (r61 = r71))) rfl (Yl.pickT rfl h55 rfl) (Mv rfl rfl ?_))
  by_cases h76 : r61 = r71
  refine WL.valG (v := .string ⟨List.toArray r36⟩) rfl rfl (decide_eq_true h76) rfl (Yl.move rfl) (WL.valG (v := .string ⟨List.toArray r48⟩) rfl rfl (decide_eq_true h76) rfl (Yl.move rfl) (WL.valG (v := .bool (decide (r36 = r48))) rfl rfl (decide_eq_true h76) rfl (Yl.strEq rfl rfl) (WL.val (v := .bool (decide (r36 = r48))) rfl (Yl.pickT rfl (decide_eq_true h76) rfl) (Mv rfl rfl ?_))))
  by_cases h77 : r36 = r48
  refine WL.valG (v := .bool r37) rfl rfl (decide_eq_true h77) rfl (Yl.move rfl) (WL.valG (v := .bool r49) rfl rfl (decide_eq_true h77) rfl (Yl.move rfl) (WL.valG (v := .bool (decide (r37 = r49))) rfl rfl (decide_eq_true h77) rfl (Yl.bool (e := (r37 == r49)) (Yl.kern rfl rfl (fun _ => by kernel_rfl)) (by first | exact Bool.beq_eq_decide_eq _ _ | (by_cases q : r37 = r49 <;> simp [q]))) (WL.val (v := .bool (decide (r37 = r49))) rfl (Yl.pickT rfl (decide_eq_true h77) rfl) (Mv rfl rfl ?_))))
  by_cases h78 : r37 = r49
  refine WL.valG (v := .bool r38) rfl rfl (decide_eq_true h78) rfl (Yl.move rfl) (WL.valG (v := .bool r50) rfl rfl (decide_eq_true h78) rfl (Yl.move rfl) (WL.valG (v := .bool (decide (r38 = r50))) rfl rfl (decide_eq_true h78) rfl (Yl.bool (e := (r38 == r50)) (Yl.kern rfl rfl (fun _ => by kernel_rfl)) (by first | exact Bool.beq_eq_decide_eq _ _ | (by_cases q : r38 = r50 <;> simp [q]))) (WL.val (v := .bool (decide (r38 = r50))) rfl (Yl.pickT rfl (decide_eq_true h78) rfl) (As rfl rfl (WL.nil (Fin.then (Wp.ret (Fin.res (res1 rfl rfl) ?_))))))))
  have H79 := H75.pick [] (by decide) rfl
  have e : w12_BufferFinds l0 p1 = decide (r38 = r50) := Eq.trans (bnd_of hr27) (Eq.trans (bnd_of hr39) (Eq.trans (bnd_of hr51) (Eq.trans (if_pos h55) (Eq.trans (bnd_of hr62) (Eq.trans (bnd_of hr72) (Eq.trans (if_pos h76) (Eq.trans (if_pos h77) (if_pos h78))))))))
  obtain rfl := e.symm.trans hr
  exact ⟨rfl, H79⟩
  refine Sk rfl rfl (decide_eq_false h78) rfl (Sk rfl rfl (decide_eq_false h78) rfl (Sk rfl rfl (decide_eq_false h78) rfl (WL.val (v := .bool false) rfl (Yl.pickF rfl (decide_eq_false h78) rfl) (As rfl rfl (WL.nil (Fin.then (Wp.ret (Fin.res (res1 rfl rfl) ?_))))))))
  have H80 := H75.pick [] (by decide) rfl
  have e : w12_BufferFinds l0 p1 = false := Eq.trans (bnd_of hr27) (Eq.trans (bnd_of hr39) (Eq.trans (bnd_of hr51) (Eq.trans (if_pos h55) (Eq.trans (bnd_of hr62) (Eq.trans (bnd_of hr72) (Eq.trans (if_pos h76) (Eq.trans (if_pos h77) (if_neg h78))))))))
  obtain rfl := e.symm.trans hr
  exact ⟨rfl, H80⟩
  refine Sk rfl rfl (decide_eq_false h77) rfl (Sk rfl rfl (decide_eq_false h77) rfl (Sk rfl rfl (decide_eq_false h77) rfl (WL.val (v := .bool false) rfl (Yl.pickF rfl (decide_eq_false h77) rfl) (Mv rfl rfl (Sk rfl rfl rfl rfl (Sk rfl rfl rfl rfl (Sk rfl rfl rfl rfl (WL.val (v := .bool false) rfl (Yl.pickF rfl rfl rfl) (As rfl rfl (WL.nil (Fin.then (Wp.ret (Fin.res (res1 rfl rfl) ?_)))))))))))))
  have H81 := H75.pick [] (by decide) rfl
  have e : w12_BufferFinds l0 p1 = false := Eq.trans (bnd_of hr27) (Eq.trans (bnd_of hr39) (Eq.trans (bnd_of hr51) (Eq.trans (if_pos h55) (Eq.trans (bnd_of hr62) (Eq.trans (bnd_of hr72) (Eq.trans (if_pos h76) (if_neg h77)))))))
  obtain rfl := e.symm.trans hr
  exact ⟨rfl, H81⟩
  refine Sk rfl rfl (decide_eq_false h76) rfl (Sk rfl rfl (decide_eq_false h76) rfl (Sk rfl rfl (decide_eq_false h76) rfl (WL.val (v := .bool false) rfl (Yl.pickF rfl (decide_eq_false h76) rfl) (Mv rfl rfl (Sk rfl rfl rfl rfl (Sk rfl rfl rfl rfl (Sk rfl rfl rfl rfl (WL.val (v := .bool false) rfl (Yl.pickF rfl rfl rfl) (Mv rfl rfl (Sk rfl rfl rfl rfl (Sk rfl rfl rfl rfl (Sk rfl rfl rfl rfl (WL.val (v := .bool false) rfl (Yl.pickF rfl rfl rfl) (As rfl rfl (WL.nil (Fin.then (Wp.ret (Fin.res (res1 rfl rfl) ?_))))))))))))))))))
  have H82 := H75.pick [] (by decide) rfl
  have e : w12_BufferFinds l0 p1 = false := Eq.trans (bnd_of hr27) (Eq.trans (bnd_of hr39) (Eq.trans (bnd_of hr51) (Eq.trans (if_pos h55) (Eq.trans (bnd_of hr62) (Eq.trans (bnd_of hr72) (if_neg h76))))))
  obtain rfl := e.symm.trans hr
  exact ⟨rfl, H82⟩
  refine Sk rfl rfl h55 rfl (Sk rfl rfl h55 rfl (Sk rfl rfl h55 rfl (Sk rfl rfl h55 rfl (Sk rfl rfl h55 rfl (WL.val (v := .bool false) rfl (Yl.pickF rfl h55 rfl) (Mv rfl rfl (Sk rfl rfl rfl rfl (Sk rfl rfl rfl rfl (Sk rfl rfl rfl rfl (WL.val (v := .bool false) rfl (Yl.pickF rfl rfl rfl) (Mv rfl rfl (Sk rfl rfl rfl rfl (Sk rfl rfl rfl rfl (Sk rfl rfl rfl rfl (WL.val (v := .bool false) rfl (Yl.pickF rfl rfl rfl) (Mv rfl rfl (Sk rfl rfl rfl rfl (Sk rfl rfl rfl rfl (Sk rfl rfl rfl rfl (WL.val (v := .bool false) rfl (Yl.pickF rfl rfl rfl) (As rfl rfl (WL.nil (Fin.then (Wp.ret (Fin.res (res1 rfl rfl) ?_)))))))))))))))))))))))))
  have H83 := H54.pick [] (by decide) rfl
  have e : w12_BufferFinds l0 p1 = false := Eq.trans (bnd_of hr27) (Eq.trans (bnd_of hr39) (Eq.trans (bnd_of hr51) (ifF h55)))
  obtain rfl := e.symm.trans hr
  exact ⟨rfl, H83⟩
end Go.Proofs.Ytblpdbnklopchaa
