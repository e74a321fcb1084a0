/-
  node: the reference's checks.
-/
import Derived.Test.YtfkkipmdnjfocaaGreatDw
namespace Go.Proofs.YtfkkipmdnjfocaaGreat
open Go.RowKit
set_option linter.unusedVariables false
set_option linter.unusedSectionVars false
set_option linter.unusedSimpArgs false

def r02_CheckKey (p0 : List UInt8) : Int :=
  if ((p0.length : Nat) : Int) < 1 then 20 else if ((p0.length : Nat) : Int) > 12 then 20 else 0

set_option maxRecDepth 100000 in
theorem r02_CheckKey_ok (w : World) (D : Nat → Prop) (p0 : List UInt8) (r0 : Int) (H : Own w D w [])  (hr : r02_CheckKey p0 = r0) :
    Calls Tryz.prog 42 #[.string ⟨List.toArray p0⟩] w (Ret fun v w' => v = .int .i64 r0 ∧ Own w D w' [] ∧ (¬ (r0 = 0) ∨ (1 ≤ p0.length ∧ p0.length ≤ 12))) := by
  refine Calls.body (args := [.string ⟨List.toArray p0⟩]) Tryz.func42 rfl rfl rfl ?_
  show Wp _ _ _ [(0, .string ⟨List.toArray p0⟩)] _ _
  refine Wp.seq (Wp.region (As rfl rfl (WL.nil (Fin.then (Wp.seq (Wp.seq (Wp.region (Mv rfl rfl (Kn (v := .int .i64 ((p0.length : Nat) : Int)) rfl rfl rfl (fun _ => by kernel_rfl) (Kn (v := .bool (decide (((p0.length : Nat) : Int) < 1))) rfl rfl rfl (fun _ => by kernel_rfl) (Mv rfl rfl ?_)))))))))))
  by_cases h21 : ((p0.length : Nat) : Int) < 1
  refine Sk rfl rfl (decide_eq_true h21) rfl (Sk rfl rfl (decide_eq_true h21) rfl (Sk rfl rfl (decide_eq_true h21) rfl (WL.val (v := .bool true) rfl (Yl.pickT rfl (decide_eq_true h21) rfl) (WL.nil (Fin.then (Wp.cond1 rfl rfl (Wp.seq (Wp.region (As rfl rfl (WL.nil (Fin.then (Wp.ret (Fin.thenR (Fin.res (res1 rfl rfl) ?_))))))))))))))
  have H22 : Own w D w [] := H.pick [] (by decide) rfl
  have e : r02_CheckKey p0 = 20 := if_pos h21
  obtain rfl := e.symm.trans hr
  exact ⟨rfl, H22, (by omega)⟩
  refine WL.valG (v := .string ⟨List.toArray p0⟩) rfl rfl (decide_eq_false h21) rfl (Yl.move rfl) (WL.valG (v := .int .i64 ((p0.length : Nat) : Int)) rfl rfl (decide_eq_false h21) rfl (Yl.kern rfl rfl (fun _ => by kernel_rfl)) (WL.valG (v := .bool (decide (((p0.length : Nat) : Int) > 12))) rfl rfl (decide_eq_false h21) rfl (Yl.kern rfl rfl (fun _ => by kernel_rfl)) (WL.val (v := .bool (decide (((p0.length : Nat) : Int) > 12))) rfl (Yl.pickF rfl (decide_eq_false h21) rfl) (WL.nil (Fin.then ?_)))))
  by_cases h23 : ((p0.length : Nat) : Int) > 12
  refine Wp.cond1 rfl (decide_eq_true h23) (Wp.seq (Wp.region (As rfl rfl (WL.nil (Fin.then (Wp.ret (Fin.thenR (Fin.res (res1 rfl rfl) ?_))))))))
  have H24 : Own w D w [] := H.pick [] (by decide) rfl
  have e : r02_CheckKey p0 = 20 := Eq.trans (if_neg h21) (if_pos h23)
  obtain rfl := e.symm.trans hr
  exact ⟨rfl, H24, (by omega)⟩
  refine Wp.cond0 rfl (decide_eq_false h23) (Wp.skip (Fin.then (Wp.seq (Wp.region (As rfl rfl (WL.nil (Fin.then (Wp.ret (Fin.res (res1 rfl rfl) ?_)))))))))
  have H25 : Own w D w [] := H.pick [] (by decide) rfl
  have e : r02_CheckKey p0 = 0 := Eq.trans (if_neg h21) (if_neg h23)
  obtain rfl := e.symm.trans hr
  exact ⟨rfl, H25, (by omega)⟩

def r12_Pivots_L0 (l0 : List (List UInt8)) : List (List UInt8) → Nat → Unit ⊕ Int
  | [], k21 => Sum.inl ()
  | x30 :: q22, k21 => bnd (r02_CheckKey x30) fun yr38 => if yr38 = 0 then if ((k21 : Nat) : Int) > 0 then bnd (List.getD l0 (k21 - 1) default) fun yx46 => if x30 ≤ yx46 then Sum.inr (20) else r12_Pivots_L0 l0 q22 (k21 + 1) else r12_Pivots_L0 l0 q22 (k21 + 1) else Sum.inr (20)

def r12_Pivots (l0 : List (List UInt8)) : Int :=
  lp (r12_Pivots_L0 l0 l0 0) fun _ => 0

set_option maxRecDepth 100000 in
theorem r12_Pivots_ok (w : World) (D : Nat → Prop) (A0 : Option Addr) (n0 c0 : Nat) (l0 : List (List UInt8)) (r0 : Int) (H : Own w D w []) (hx0 : Ro w D fun w' => Rds w' 1 A0 n0 (List.flatMap eS l0)) (hn0 : n0 = l0.length) (hl0 : l0.length ≤ 9223372036854775807) (hr : r12_Pivots l0 = r0) :
    Calls Tryz.prog 24 #[.slice A0 n0 c0] w (Ret fun v w' => v = .int .i64 r0 ∧ Own w D w' []) := by
  subst hn0
  refine Calls.body (args := [.slice A0 l0.length c0]) Tryz.func24 rfl rfl rfl ?_
  show Wp _ _ _ [(0, .slice A0 l0.length c0)] _ _
  refine Wp.seq (Wp.region (As rfl rfl (WL.nil (Fin.then (Wp.seq (Wp.seq (Wp.region (Mv rfl rfl (Kn (v := .int .i64 ((l0.length : Nat) : Int)) rfl rfl rfl (fun _ => by kernel_rfl) (Mv rfl rfl (WL.nil (Fin.then (Wp.block ?_)))))))))))))
  have H23 : Own w D w [] := H.pick [] (by decide) rfl
  refine Wp.loop (ι := Nat) (fun i => [(2, .int .i64 0), (7, .int .i64 ((i : Nat) : Int)), (6, .int .i64 ((l0.length : Nat) : Int)), (5, .slice A0 l0.length c0), (0, .slice A0 l0.length c0)]) (fun (i : Nat) w' => Own w D w' [] ∧ (i ≤ l0.length ∧ r12_Pivots_L0 l0 l0 0 = r12_Pivots_L0 l0 (List.drop i l0) i)) (fun i => l0.length - i) 0 ⟨rfl, rfl, rfl, rfl, rfl, trivial⟩ ⟨H23, (show 0 ≤ l0.length ∧ r12_Pivots_L0 l0 l0 0 = r12_Pivots_L0 l0 (List.drop 0 l0) 0 from ⟨by omega, rfl⟩)⟩ ?_
  rintro k21 w24 ⟨H25, hf26⟩
  show Wp _ _ _ [(2, .int .i64 0), (7, .int .i64 ((k21 : Nat) : Int)), (6, .int .i64 ((l0.length : Nat) : Int)), (5, .slice A0 l0.length c0), (0, .slice A0 l0.length c0)] _ _
  replace hf26 : k21 ≤ l0.length ∧ r12_Pivots_L0 l0 l0 0 = r12_Pivots_L0 l0 (List.drop k21 l0) k21 := hf26
  obtain ⟨hi28, hq27⟩ := hf26
  refine Wp.seq (Wp.region (Kn (v := .bool (decide (((k21 : Nat) : Int) < ((l0.length : Nat) : Int)))) rfl rfl rfl (fun _ => by kernel_rfl) (WL.nil (Fin.then (Wp.seq ?_)))))
  by_cases h29 : ((k21 : Nat) : Int) < ((l0.length : Nat) : Int)
  obtain ⟨x30, hx31⟩ := rds_at (ls := l0) (i := k21) eS_len (by decide) (H25.ro hx0) (by first | omega | (simp; done) | (simp; omega))
  have hd32 := drop_at hx31
  refine Wp.cond1 rfl (decide_eq_true h29) (Wp.skip (Fin.then (Wp.seq (Wp.block (Wp.seq (Wp.region (Mv rfl rfl (WL.val (v := .pointer (some ⟨ab A0, ao A0 + k21 * 1, none⟩)) rfl (Yl.indexAddr (El24) rfl rfl ((H25.ro hx0).addr (i := k21) (by omega)) (by omega)) (WL.val (v := .string ⟨List.toArray x30⟩) rfl (Yl.load rfl (Lds.one Tryz.isAgg9 (((H25.ro hx0).elem eS_len hx31 (by decide)).at_ (k := 0) rfl))) (As rfl rfl (As rfl rfl (WL.nil (Fin.then (Wp.seq (Wp.region (Mv rfl rfl ?_))))))))))))))))
  obtain ⟨r38, hr39⟩ : ∃ q, r02_CheckKey x30 = q := ⟨_, rfl⟩
  obtain ⟨D33, HP34, ro35, bk36, rr37⟩ := Own.enter0 H25
  refine WL.do rfl (Do.call Tryz.call42 rfl (r02_CheckKey_ok _ _ x30 r38 HP34 hr39) ?_)
  rintro _ w40 ⟨rfl, HQ41, hk43⟩
  have H42 := bk36 _ _ HQ41
  replace hk43 : ¬ (r38 = 0) ∨ (1 ≤ x30.length ∧ x30.length ≤ 12) := hk43
  refine WL.val (v := .bool (decide (¬ (r38 = 0)))) rfl (Yl.bool (e := !(decide (r38 = 0))) (Yl.kern rfl rfl (fun _ => by kernel_rfl)) decide_not.symm) (Mv rfl rfl ?_)
  by_cases h44 : r38 = 0
  refine WL.valG (v := .int .i64 ((k21 : Nat) : Int)) rfl rfl (decide_eq_false (not_not_intro h44)) rfl (Yl.move rfl) (WL.valG (v := .bool (decide (((k21 : Nat) : Int) > 0))) rfl rfl (decide_eq_false (not_not_intro h44)) rfl (Yl.kern rfl rfl (fun _ => by kernel_rfl)) (WL.valG (v := .bool (decide (((k21 : Nat) : Int) > 0))) rfl rfl (decide_eq_false (not_not_intro h44)) rfl (Yl.move rfl) ?_))
  by_cases h45 : ((k21 : Nat) : Int) > 0
  refine WL.valG (v := .slice A0 l0.length c0) rfl rfl (decide_eq_true h45) rfl (Yl.move rfl) (WL.valG (v := .int .i64 ((k21 : Nat) : Int)) rfl rfl (decide_eq_true h45) rfl (Yl.move rfl) (WL.valG (v := .int .i64 ((k21 - 1 : Nat) : Int)) rfl rfl (decide_eq_true h45) rfl (Yl.int (e := IntKind.i64.wrap (((k21 : Nat) : Int) - 1)) (Yl.kern rfl rfl (fun _ => by kernel_rfl)) (by rw [IntWalk.i64_in _ (by omega)]; omega)) ?_))
  obtain ⟨x46, hx47⟩ := rds_at (ls := l0) (i := k21 - 1) eS_len (by decide) (H42.ro hx0) (by first | omega | (simp; done) | (simp; omega))
  refine WL.valG (v := .pointer (some ⟨ab A0, ao A0 + (k21 - 1) * 1, none⟩)) rfl rfl (decide_eq_true h45) rfl (Yl.indexAddr (El24) rfl rfl ((H42.ro hx0).addr (i := k21 - 1) (by omega)) (by omega)) (WL.valG (v := .string ⟨List.toArray x46⟩) rfl rfl (decide_eq_true h45) rfl (Yl.load rfl (Lds.one Tryz.isAgg9 (((H42.ro hx0).elem eS_len hx47 (by decide)).at_ (k := 0) rfl))) (WL.valG (v := .string ⟨List.toArray x30⟩) rfl rfl (decide_eq_true h45) rfl (Yl.move rfl) (WL.valG (v := .bool (decide (x30 ≤ x46))) rfl rfl (decide_eq_true h45) rfl (Yl.bool (e := !(Op.bytesLess x46 x30)) (Yl.strGe rfl rfl) (bl_ge _ _)) (WL.valG (v := .bool (decide (x30 ≤ x46))) rfl rfl (decide_eq_false (not_not_intro h44)) rfl (Yl.pickT rfl (decide_eq_true h45) rfl) (WL.val (v := .bool (decide (x30 ≤ x46))) rfl (Yl.pickF rfl (decide_eq_false (not_not_intro h44)) rfl) (WL.nil (Fin.then ?_)))))))
  by_cases h48 : x30 ≤ x46
  refine Wp.cond1 rfl (decide_eq_true h48) (Wp.seq (Wp.region (As rfl rfl (WL.nil (Fin.then (Wp.ret (Fin.blockR (Fin.thenR (Fin.thenR (Fin.blockR (Fin.thenR (Fin.res (res1 rfl rfl) ?_))))))))))))
  have H49 := H42.pick [] (by decide) rfl
  have e : r12_Pivots l0 = 20 := lp_r (Eq.trans (hq27) (Eq.trans (congrArg (fun q => r12_Pivots_L0 l0 q k21) hd32) (Eq.trans (bnd_of hr39) (Eq.trans (if_pos h44) (Eq.trans (if_pos h45) (Eq.trans (bnd_of (getD_of hx47)) (if_pos h48)))))))
  obtain rfl := e.symm.trans hr
  exact ⟨rfl, H49⟩
  refine Wp.cond0 rfl (decide_eq_false h48) (Wp.skip (Fin.blockN (Fin.then (Wp.region (WL.val (v := .int .i64 ((k21 + 1 : Nat) : Int)) rfl (Yl.int (e := IntKind.i64.wrap (((k21 : Nat) : Int) + 1)) (Yl.kern rfl rfl (fun _ => by kernel_rfl)) (by rw [IntWalk.i64_in _ (by omega)]; omega)) (Mv rfl rfl (WL.nil ?_)))))))
  have H50 := H42.pick [] (by decide) rfl
  exact Fin.round (k21 + 1) ⟨rfl, rfl, rfl, rfl, rfl, trivial⟩ ⟨H50, (show (k21 + 1) ≤ l0.length ∧ r12_Pivots_L0 l0 l0 0 = r12_Pivots_L0 l0 (List.drop (k21 + 1) l0) (k21 + 1) from ⟨by omega, Eq.trans (hq27) (Eq.trans (congrArg (fun q => r12_Pivots_L0 l0 q k21) hd32) (Eq.trans (bnd_of hr39) (Eq.trans (if_pos h44) (Eq.trans (if_pos h45) (Eq.trans (bnd_of (getD_of hx47)) (if_neg h48))))))⟩)⟩ (by show l0.length - (k21 + 1) < l0.length - k21; omega)
  refine Sk rfl rfl (decide_eq_false h45) rfl (Sk rfl rfl (decide_eq_false h45) rfl (Sk rfl rfl (decide_eq_false h45) rfl (Sk rfl rfl (decide_eq_false h45) rfl (Sk rfl rfl (decide_eq_false h45) rfl (Sk rfl rfl (decide_eq_false h45) rfl (Sk rfl rfl (decide_eq_false h45) rfl (WL.valG (v := .bool false) rfl rfl (decide_eq_false (not_not_intro h44)) rfl (Yl.pickF rfl (decide_eq_false h45) rfl) (WL.val (v := .bool false) rfl (Yl.pickF rfl (decide_eq_false (not_not_intro h44)) rfl) (WL.nil (Fin.then (Wp.cond0 rfl rfl (Wp.skip (Fin.blockN (Fin.then (Wp.region (WL.val (v := .int .i64 ((k21 + 1 : Nat) : Int)) rfl (Yl.int (e := IntKind.i64.wrap (((k21 : Nat) : Int) + 1)) (Yl.kern rfl rfl (fun _ => by kernel_rfl)) (by rw [IntWalk.i64_in _ (by omega)]; omega)) (Mv rfl rfl (WL.nil ?_))))))))))))))))))
  have H51 := H42.pick [] (by decide) rfl
  exact Fin.round (k21 + 1) ⟨rfl, rfl, rfl, rfl, rfl, trivial⟩ ⟨H51, (show (k21 + 1) ≤ l0.length ∧ r12_Pivots_L0 l0 l0 0 = r12_Pivots_L0 l0 (List.drop (k21 + 1) l0) (k21 + 1) from ⟨by omega, Eq.trans (hq27) (Eq.trans (congrArg (fun q => r12_Pivots_L0 l0 q k21) hd32) (Eq.trans (bnd_of hr39) (Eq.trans (if_pos h44) (if_neg h45))))⟩)⟩ (by show l0.length - (k21 + 1) < l0.length - k21; omega)
  refine Sk rfl rfl (decide_eq_true h44) rfl (Sk rfl rfl (decide_eq_true h44) rfl (Sk rfl rfl (decide_eq_true h44) rfl (WL.skipU rfl rfl rfl (WL.skipU rfl rfl rfl (WL.skipU rfl rfl rfl (WL.skipU rfl rfl rfl (WL.skipU rfl rfl rfl (WL.skipU rfl rfl rfl (WL.skipU rfl rfl rfl (Sk rfl rfl (decide_eq_true h44) rfl (WL.val (v := .bool true) rfl (Yl.pickT rfl (decide_eq_true h44) rfl) (WL.nil (Fin.then (Wp.cond1 rfl rfl (Wp.seq (Wp.region (As rfl rfl (WL.nil (Fin.then (Wp.ret (Fin.blockR (Fin.thenR (Fin.thenR (Fin.blockR (Fin.thenR (Fin.res (res1 rfl rfl) ?_))))))))))))))))))))))))))
  have H52 := H42.pick [] (by decide) rfl
  have e : r12_Pivots l0 = 20 := lp_r (Eq.trans (hq27) (Eq.trans (congrArg (fun q => r12_Pivots_L0 l0 q k21) hd32) (Eq.trans (bnd_of hr39) (if_neg h44))))
  obtain rfl := e.symm.trans hr
  exact ⟨rfl, H52⟩
  refine Wp.cond0 rfl (decide_eq_false h29) (Wp.exit (Fin.thenX ?_))
  have hL53 : r12_Pivots_L0 l0 l0 0 = Sum.inl () := Eq.trans (hq27) (Eq.trans (congrArg (fun q => r12_Pivots_L0 l0 q k21) (drop_end (ls := l0) (i := k21) (by omega))) rfl)
  refine Fin.thenX (Fin.blockX (Fin.then (Wp.seq (Wp.region (As rfl rfl (WL.nil (Fin.then (Wp.ret (Fin.res (res1 rfl rfl) ?_)))))))))
  have H54 := H25.pick [] (by decide) rfl
  have e : r12_Pivots l0 = 0 := lp_l hL53
  obtain rfl := e.symm.trans hr
  exact ⟨rfl, H54⟩

def r02_Check (p0 : RangeD) : Int :=
  if ((p0.xLo.length : Nat) : Int) > 12 then 21 else if ((p0.xHi.length : Nat) : Int) > 12 then 21 else if p0.xHi ≠ ([]) then if p0.xHi ≤ p0.xLo then 21 else 0 else 0

set_option maxRecDepth 100000 in
theorem r02_Check_ok (w : World) (D : Nat → Prop) (p0 : RangeD) (r0 : Int) (H : Own w D w [])  (hr : r02_Check p0 = r0) :
    Calls Tryz.prog 45 #[.agg (RangeD.cells p0).toArray] w (Ret fun v w' => v = .int .i64 r0 ∧ Own w D w' []) := by
  refine Calls.body (args := [.agg (RangeD.cells p0).toArray]) Tryz.func45 rfl rfl rfl ?_
  show Wp _ _ _ [(0, .agg (RangeD.cells p0).toArray)] _ _
  refine Wp.seq (Wp.region ?_)
  refine WL.do rfl (Do.newP (cs := (RangeD.cells p0)) (t := 55) H rfl rfl (fun _ => by kernel_rfl) ?_)
  intro g21 w22 H23
  refine As rfl rfl (WL.nil (Fin.then (Wp.seq (Wp.seq (Wp.region (Kn (v := .pointer (some ⟨g21, 0, none⟩)) rfl rfl rfl (fun _ => by kernel_rfl) (WL.val (v := .string ⟨List.toArray p0.xLo⟩) rfl (Yl.load rfl (Lds.one Tryz.isAgg9 (Cls.of (H23.cls (i := 0) rfl) rfl))) (Kn (v := .int .i64 ((p0.xLo.length : Nat) : Int)) rfl rfl rfl (fun _ => by kernel_rfl) (Kn (v := .bool (decide (((p0.xLo.length : Nat) : Int) > 12))) rfl rfl rfl (fun _ => by kernel_rfl) (Mv rfl rfl ?_))))))))))
  by_cases h24 : ((p0.xLo.length : Nat) : Int) > 12
  refine Sk rfl rfl (decide_eq_true h24) rfl (Sk rfl rfl (decide_eq_true h24) rfl (Sk rfl rfl (decide_eq_true h24) rfl (Sk rfl rfl (decide_eq_true h24) rfl (WL.val (v := .bool true) rfl (Yl.pickT rfl (decide_eq_true h24) rfl) (Mv rfl rfl (Sk rfl rfl rfl rfl (Sk rfl rfl rfl rfl (Sk rfl rfl rfl rfl (Sk rfl rfl rfl rfl (WL.skipU rfl rfl rfl (WL.skipU rfl rfl rfl (WL.skipU rfl rfl rfl (WL.skipU rfl rfl rfl (WL.skipU rfl rfl rfl (Sk rfl rfl rfl rfl (WL.val (v := .bool true) rfl (Yl.pickT rfl rfl rfl) (WL.nil (Fin.then (Wp.cond1 rfl rfl (Wp.seq (Wp.region (As rfl rfl (WL.nil (Fin.then (Wp.ret (Fin.thenR (Fin.res (res1 rfl rfl) ?_)))))))))))))))))))))))))))
  have H25 := H23.pick [] (by decide) rfl
  have e : r02_Check p0 = 21 := if_pos h24
  obtain rfl := e.symm.trans hr
  exact ⟨rfl, H25⟩
  refine WL.valG (v := .pointer (some ⟨g21, 1, none⟩)) rfl rfl (decide_eq_false h24) rfl (Yl.kern rfl rfl (fun _ => by kernel_rfl)) (WL.valG (v := .string ⟨List.toArray p0.xHi⟩) rfl rfl (decide_eq_false h24) rfl (Yl.load rfl (Lds.one Tryz.isAgg9 (Cls.of (H23.cls (i := 0) rfl) rfl))) (WL.valG (v := .int .i64 ((p0.xHi.length : Nat) : Int)) rfl rfl (decide_eq_false h24) rfl (Yl.kern rfl rfl (fun _ => by kernel_rfl)) (WL.valG (v := .bool (decide (((p0.xHi.length : Nat) : Int) > 12))) rfl rfl (decide_eq_false h24) rfl (Yl.kern rfl rfl (fun _ => by kernel_rfl)) (WL.val (v := .bool (decide (((p0.xHi.length : Nat) : Int) > 12))) rfl (Yl.pickF rfl (decide_eq_false h24) rfl) (Mv rfl rfl ?_)))))
  by_cases h26 : ((p0.xHi.length : Nat) : Int) > 12
  refine Sk rfl rfl (decide_eq_true h26) rfl (Sk rfl rfl (decide_eq_true h26) rfl (Sk rfl rfl (decide_eq_true h26) rfl (Sk rfl rfl (decide_eq_true h26) rfl (WL.skipU rfl rfl rfl (WL.skipU rfl rfl rfl (WL.skipU rfl rfl rfl (WL.skipU rfl rfl rfl (WL.skipU rfl rfl rfl (Sk rfl rfl (decide_eq_true h26) rfl (WL.val (v := .bool true) rfl (Yl.pickT rfl (decide_eq_true h26) rfl) (WL.nil (Fin.then (Wp.cond1 rfl rfl (Wp.seq (Wp.region (As rfl rfl (WL.nil (Fin.then (Wp.ret (Fin.thenR (Fin.res (res1 rfl rfl) ?_)))))))))))))))))))))
  have H27 := H23.pick [] (by decide) rfl
  have e : r02_Check p0 = 21 := Eq.trans (if_neg h24) (if_pos h26)
  obtain rfl := e.symm.trans hr
  exact ⟨rfl, H27⟩
  refine WL.valG (v := .pointer (some ⟨g21, 1, none⟩)) rfl rfl (decide_eq_false h26) rfl (Yl.kern rfl rfl (fun _ => by kernel_rfl)) (WL.valG (v := .string ⟨List.toArray p0.xHi⟩) rfl rfl (decide_eq_false h26) rfl (Yl.load rfl (Lds.one Tryz.isAgg9 (Cls.of (H23.cls (i := 0) rfl) rfl))) (WL.valG (v := .bool (decide (p0.xHi ≠ ([])))) rfl rfl (decide_eq_false h26) rfl (Yl.strNe rfl rfl) (WL.valG (v := .bool (decide (p0.xHi ≠ ([])))) rfl rfl (decide_eq_false h26) rfl (Yl.move rfl) ?_)))
  by_cases h28 : p0.xHi ≠ ([])
  refine WL.valG (v := .pointer (some ⟨g21, 0, none⟩)) rfl rfl (decide_eq_true h28) rfl (Yl.kern rfl rfl (fun _ => by kernel_rfl)) (WL.valG (v := .string ⟨List.toArray p0.xLo⟩) rfl rfl (decide_eq_true h28) rfl (Yl.load rfl (Lds.one Tryz.isAgg9 (Cls.of (H23.cls (i := 0) rfl) rfl))) (WL.valG (v := .pointer (some ⟨g21, 1, none⟩)) rfl rfl (decide_eq_true h28) rfl (Yl.kern rfl rfl (fun _ => by kernel_rfl)) (WL.valG (v := .string ⟨List.toArray p0.xHi⟩) rfl rfl (decide_eq_true h28) rfl (Yl.load rfl (Lds.one Tryz.isAgg9 (Cls.of (H23.cls (i := 0) rfl) rfl))) (WL.valG (v := .bool (decide (p0.xHi ≤ p0.xLo))) rfl rfl (decide_eq_true h28) rfl (Yl.bool (e := !(Op.bytesLess p0.xLo p0.xHi)) (Yl.strGe rfl rfl) (bl_ge _ _)) (WL.valG (v := .bool (decide (p0.xHi ≤ p0.xLo))) rfl rfl (decide_eq_false h26) rfl (Yl.pickT rfl (decide_eq_true h28) rfl) (WL.val (v := .bool (decide (p0.xHi ≤ p0.xLo))) rfl (Yl.pickF rfl (decide_eq_false h26) rfl) (WL.nil (Fin.then ?_))))))))
  by_cases h29 : p0.xHi ≤ p0.xLo
  refine Wp.cond1 rfl (decide_eq_true h29) (Wp.seq (Wp.region (As rfl rfl (WL.nil (Fin.then (Wp.ret (Fin.thenR (Fin.res (res1 rfl rfl) ?_))))))))
  have H30 := H23.pick [] (by decide) rfl
  have e : r02_Check p0 = 21 := Eq.trans (if_neg h24) (Eq.trans (if_neg h26) (Eq.trans (if_pos h28) (if_pos h29)))
  obtain rfl := e.symm.trans hr
  exact ⟨rfl, H30⟩
  refine Wp.cond0 rfl (decide_eq_false h29) (Wp.skip (Fin.then (Wp.seq (Wp.region (As rfl rfl (WL.nil (Fin.then (Wp.ret (Fin.res (res1 rfl rfl) ?_)))))))))
  have H31 := H23.pick [] (by decide) rfl
  have e : r02_Check p0 = 0 := Eq.trans (if_neg h24) (Eq.trans (if_neg h26) (Eq.trans (if_pos h28) (if_neg h29)))
  obtain rfl := e.symm.trans hr
  exact ⟨rfl, H31⟩
  refine Sk rfl rfl (decide_eq_false h28) rfl (Sk rfl rfl (decide_eq_false h28) rfl (Sk rfl rfl (decide_eq_false h28) rfl (Sk rfl rfl (decide_eq_false h28) rfl (Sk rfl rfl (decide_eq_false h28) rfl (WL.valG (v := .bool false) rfl rfl (decide_eq_false h26) rfl (Yl.pickF rfl (decide_eq_false h28) rfl) (WL.val (v := .bool false) rfl (Yl.pickF rfl (decide_eq_false h26) rfl) (WL.nil (Fin.then (Wp.cond0 rfl rfl (Wp.skip (Fin.then (Wp.seq (Wp.region (As rfl rfl (WL.nil (Fin.then (Wp.ret (Fin.res (res1 rfl rfl) ?_))))))))))))))))))
  have H32 := H23.pick [] (by decide) rfl
  have e : r02_Check p0 = 0 := Eq.trans (if_neg h24) (Eq.trans (if_neg h26) (if_neg h28))
  obtain rfl := e.symm.trans hr
  exact ⟨rfl, H32⟩

def r04_CheckOp (p0 : OpD) : Int :=
  if p0.xKind = 1 then if p0.xLo ≠ ([]) then 40 else if p0.xHi ≠ ([]) then 40 else if p0.xValue ≠ ([]) then 40 else if p0.xMost = 0 then bnd (r02_CheckKey p0.xKey) fun yr41 => if yr41 = 0 then if ((p0.xValue.length : Nat) : Int) > 16 then 2 else 0 else 20 else 40 else if p0.xKind = 2 then if p0.xLo ≠ ([]) then 40 else if p0.xHi ≠ ([]) then 40 else if p0.xMost = 0 then bnd (r02_CheckKey p0.xKey) fun yr68 => if yr68 = 0 then if ((p0.xValue.length : Nat) : Int) > 16 then 2 else 0 else 20 else 40 else if p0.xKind = 4 then if p0.xKey ≠ ([]) then 40 else if p0.xValue ≠ ([]) then 40 else if ((p0.xValue.length : Nat) : Int) > 16 then 2 else bnd (r02_Check (RangeD.mk p0.xLo p0.xHi)) fun yr96 => if yr96 = 0 then if p0.xMost < 1 then 1 else if p0.xMost > 4 then 1 else 0 else 21 else if p0.xKind = 3 then if p0.xLo ≠ ([]) then 40 else if p0.xHi ≠ ([]) then 40 else if p0.xValue ≠ ([]) then 40 else if p0.xMost = 0 then bnd (r02_CheckKey p0.xKey) fun yr124 => if yr124 = 0 then if ((p0.xValue.length : Nat) : Int) > 16 then 2 else 0 else 20 else 40 else if p0.xKind = 5 then if p0.xKey ≠ ([]) then 40 else if p0.xValue ≠ ([]) then 40 else if p0.xMost = 0 then if ((p0.xValue.length : Nat) : Int) > 16 then 2 else bnd (r02_Check (RangeD.mk p0.xLo p0.xHi)) fun yr151 => if yr151 = 0 then 0 else 21 else 40 else 40

set_option maxRecDepth 100000 in
theorem r04_CheckOp_ok (w : World) (D : Nat → Prop) (p0 : OpD) (r0 : Int) (H : Own w D w [])  (hr : r04_CheckOp p0 = r0) :
    Calls Tryz.prog 43 #[.agg (OpD.cells p0).toArray] w (Ret fun v w' => v = .int .i64 r0 ∧ Own w D w' [] ∧ (¬ (r0 = 0) ∨ (1 ≤ p0.xKind ∧ p0.xKind ≤ 5))) := by
  refine Calls.body (args := [.agg (OpD.cells p0).toArray]) Tryz.func43 rfl rfl rfl ?_
  show Wp _ _ _ [(0, .agg (OpD.cells p0).toArray)] _ _
  refine Wp.seq (Wp.region ?_)
  refine WL.do rfl (Do.newP (cs := (OpD.cells p0)) (t := 59) H rfl rfl (fun _ => by kernel_rfl) ?_)
  intro g21 w22 H23
  refine As rfl rfl (WL.nil (Fin.then (Wp.seq (Wp.region (Kn (v := .pointer (some ⟨g21, 0, none⟩)) rfl rfl rfl (fun _ => by kernel_rfl) (WL.val (v := .int .i64 p0.xKind) rfl (Yl.load rfl (Lds.one Tryz.isAgg3 (Cls.of (H23.cls (i := 0) rfl) rfl))) (Kn (v := .bool (decide (p0.xKind = 1))) rfl rfl rfl (fun _ => by kernel_rfl) (Mv rfl rfl ?_))))))))
  by_cases h24 : p0.xKind = 1
  refine Sk rfl rfl (decide_eq_true h24) rfl (Sk rfl rfl (decide_eq_true h24) rfl (Sk rfl rfl (decide_eq_true h24) rfl (WL.val (v := .bool true) rfl (Yl.pickT rfl (decide_eq_true h24) rfl) (Mv rfl rfl (Sk rfl rfl rfl rfl (Sk rfl rfl rfl rfl (Sk rfl rfl rfl rfl (WL.val (v := .bool true) rfl (Yl.pickT rfl rfl rfl) (As rfl rfl (WL.nil (Fin.then (Wp.seq (Wp.region (Kn (v := .pointer (some ⟨g21, 0, none⟩)) rfl rfl rfl (fun _ => by kernel_rfl) (WL.val (v := .int .i64 p0.xKind) rfl (Yl.load rfl (Lds.one Tryz.isAgg3 (Cls.of (H23.cls (i := 0) rfl) rfl))) (Kn (v := .bool (decide (p0.xKind = 4))) rfl rfl rfl (fun _ => by kernel_rfl) (Mv rfl rfl ?_)))))))))))))))))
  have hb25 : (decide (p0.xKind = 4)) = false := (decide_eq_false (by omega))
  refine WL.valG (v := .pointer (some ⟨g21, 0, none⟩)) rfl rfl hb25 rfl (Yl.kern rfl rfl (fun _ => by kernel_rfl)) (WL.valG (v := .int .i64 p0.xKind) rfl rfl hb25 rfl (Yl.load rfl (Lds.one Tryz.isAgg3 (Cls.of (H23.cls (i := 0) rfl) rfl))) (WL.valG (v := .bool (decide (p0.xKind = 5))) rfl rfl hb25 rfl (Yl.kern rfl rfl (fun _ => by kernel_rfl)) (WL.val (v := .bool (decide (p0.xKind = 5))) rfl (Yl.pickF rfl hb25 rfl) (As rfl rfl (WL.nil (Fin.then (Wp.seq (Wp.seq (Wp.region (Mv rfl rfl (Kn (v := .bool false) rfl rfl rfl (fun _ => by kernel_rfl) (Mv rfl rfl (Sk rfl rfl rfl rfl (Sk rfl rfl rfl rfl (WL.val (v := .bool false) rfl (Yl.pickF rfl rfl rfl) (Mv rfl rfl (WL.valG (v := .bool true) rfl rfl rfl rfl (Yl.move rfl) (WL.valG (v := .bool true) rfl rfl rfl rfl (Yl.move rfl) (WL.valG (v := .pointer (some ⟨g21, 3, none⟩)) rfl rfl rfl rfl (Yl.kern rfl rfl (fun _ => by kernel_rfl)) (WL.valG (v := .string ⟨List.toArray p0.xLo⟩) rfl rfl rfl rfl (Yl.load rfl (Lds.one Tryz.isAgg9 (Cls.of (H23.cls (i := 0) rfl) rfl))) (WL.valG (v := .bool (decide (p0.xLo ≠ ([])))) rfl rfl rfl rfl (Yl.strNe rfl rfl) (WL.valG (v := .bool (decide (p0.xLo ≠ ([])))) rfl rfl rfl rfl (Yl.move rfl) ?_))))))))))))))))))))))
  by_cases h26 : p0.xLo ≠ ([])
  refine Sk rfl rfl (decide_eq_true h26) rfl (Sk rfl rfl (decide_eq_true h26) rfl (Sk rfl rfl (decide_eq_true h26) rfl (WL.valG (v := .bool true) rfl rfl rfl rfl (Yl.pickT rfl (decide_eq_true h26) rfl) (WL.valG (v := .bool true) rfl rfl rfl rfl (Yl.pickT rfl rfl rfl) (WL.val (v := .bool true) rfl (Yl.pickF rfl rfl rfl) (Mv rfl rfl (Sk rfl rfl rfl rfl (Sk rfl rfl rfl rfl (WL.skipU rfl rfl rfl (WL.skipU rfl rfl rfl (WL.skipU rfl rfl rfl (Sk rfl rfl rfl rfl (WL.val (v := .bool true) rfl (Yl.pickT rfl rfl rfl) (Mv rfl rfl (Sk rfl rfl rfl rfl (Sk rfl rfl rfl rfl (Sk rfl rfl rfl rfl (Sk rfl rfl rfl rfl (WL.skipU rfl rfl rfl (WL.skipU rfl rfl rfl (WL.skipU rfl rfl rfl (Sk rfl rfl rfl rfl (WL.val (v := .bool true) rfl (Yl.pickT rfl rfl rfl) (Mv rfl rfl (Sk rfl rfl rfl rfl (Sk rfl rfl rfl rfl (Sk rfl rfl rfl rfl (Sk rfl rfl rfl rfl (WL.skipU rfl rfl rfl (WL.skipU rfl rfl rfl (WL.skipU rfl rfl rfl (Sk rfl rfl rfl rfl (WL.val (v := .bool true) rfl (Yl.pickT rfl rfl rfl) (WL.nil (Fin.then (Wp.cond1 rfl rfl (Wp.seq (Wp.region (As rfl rfl ?_)))))))))))))))))))))))))))))))))))))))
  refine WL.nil (Fin.then (Wp.ret (Fin.thenR (Fin.res (res1 rfl rfl) ?_))))
  have H27 := H23.pick [] (by decide) rfl
  have e : r04_CheckOp p0 = 40 := Eq.trans (if_pos h24) (if_pos h26)
  obtain rfl := e.symm.trans hr
  exact ⟨rfl, H27, (by omega)⟩
  refine WL.valG (v := .pointer (some ⟨g21, 4, none⟩)) rfl rfl (decide_eq_false h26) rfl (Yl.kern rfl rfl (fun _ => by kernel_rfl)) (WL.valG (v := .string ⟨List.toArray p0.xHi⟩) rfl rfl (decide_eq_false h26) rfl (Yl.load rfl (Lds.one Tryz.isAgg9 (Cls.of (H23.cls (i := 0) rfl) rfl))) (WL.valG (v := .bool (decide (p0.xHi ≠ ([])))) rfl rfl (decide_eq_false h26) rfl (Yl.strNe rfl rfl) (WL.valG (v := .bool (decide (p0.xHi ≠ ([])))) rfl rfl rfl rfl (Yl.pickF rfl (decide_eq_false h26) rfl) (WL.valG (v := .bool (decide (p0.xHi ≠ ([])))) rfl rfl rfl rfl (Yl.pickT rfl rfl rfl) (WL.val (v := .bool (decide (p0.xHi ≠ ([])))) rfl (Yl.pickF rfl rfl rfl) (Mv rfl rfl ?_))))))
  by_cases h28 : p0.xHi ≠ ([])
  refine Sk rfl rfl (decide_eq_true h28) rfl (Sk rfl rfl (decide_eq_true h28) rfl (WL.skipU rfl rfl rfl (WL.skipU rfl rfl rfl (WL.skipU rfl rfl rfl (Sk rfl rfl (decide_eq_true h28) rfl (WL.val (v := .bool true) rfl (Yl.pickT rfl (decide_eq_true h28) rfl) (Mv rfl rfl (Sk rfl rfl rfl rfl (Sk rfl rfl rfl rfl (Sk rfl rfl rfl rfl (Sk rfl rfl rfl rfl (WL.skipU rfl rfl rfl (WL.skipU rfl rfl rfl (WL.skipU rfl rfl rfl (Sk rfl rfl rfl rfl (WL.val (v := .bool true) rfl (Yl.pickT rfl rfl rfl) (Mv rfl rfl (Sk rfl rfl rfl rfl (Sk rfl rfl rfl rfl (Sk rfl rfl rfl rfl (Sk rfl rfl rfl rfl (WL.skipU rfl rfl rfl (WL.skipU rfl rfl rfl (WL.skipU rfl rfl rfl (Sk rfl rfl rfl rfl (WL.val (v := .bool true) rfl (Yl.pickT rfl rfl rfl) (WL.nil (Fin.then (Wp.cond1 rfl rfl (Wp.seq (Wp.region (As rfl rfl (WL.nil (Fin.then (Wp.ret (Fin.thenR (Fin.res (res1 rfl rfl) ?_)))))))))))))))))))))))))))))))))))))
  have H29 := H23.pick [] (by decide) rfl
  have e : r04_CheckOp p0 = 40 := Eq.trans (if_pos h24) (Eq.trans (if_neg h26) (if_pos h28))
  obtain rfl := e.symm.trans hr
  exact ⟨rfl, H29, (by omega)⟩
  refine WL.valG (v := .bool (decide (p0.xKind = 5))) rfl rfl (decide_eq_false h28) rfl (Yl.move rfl) (WL.valG (v := .bool (decide (p0.xKind = 5))) rfl rfl (decide_eq_false h28) rfl (Yl.move rfl) ?_)
  have hb30 : (decide (p0.xKind = 5)) = false := (decide_eq_false (by omega))
  refine Sk rfl rfl hb30 rfl (Sk rfl rfl hb30 rfl (Sk rfl rfl hb30 rfl (WL.valG (v := .bool false) rfl rfl (decide_eq_false h28) rfl (Yl.pickF rfl hb30 rfl) (WL.val (v := .bool false) rfl (Yl.pickF rfl (decide_eq_false h28) rfl) (Mv rfl rfl (WL.valG (v := .pointer (some ⟨g21, 0, none⟩)) rfl rfl rfl rfl (Yl.kern rfl rfl (fun _ => by kernel_rfl)) (WL.valG (v := .int .i64 p0.xKind) rfl rfl rfl rfl (Yl.load rfl (Lds.one Tryz.isAgg3 (Cls.of (H23.cls (i := 0) rfl) rfl))) (WL.valG (v := .bool (decide (¬ (p0.xKind = 2)))) rfl rfl rfl rfl (Yl.bool (e := !(decide (p0.xKind = 2))) (Yl.kern rfl rfl (fun _ => by kernel_rfl)) decide_not.symm) (WL.valG (v := .bool (decide (¬ (p0.xKind = 2)))) rfl rfl rfl rfl (Yl.move rfl) ?_)))))))))
  have hb31 : (decide (¬ (p0.xKind = 2))) = true := (decide_eq_true (by omega))
  refine WL.valG (v := .pointer (some ⟨g21, 2, none⟩)) rfl rfl hb31 rfl (Yl.kern rfl rfl (fun _ => by kernel_rfl)) (WL.valG (v := .string ⟨List.toArray p0.xValue⟩) rfl rfl hb31 rfl (Yl.load rfl (Lds.one Tryz.isAgg9 (Cls.of (H23.cls (i := 0) rfl) rfl))) (WL.valG (v := .bool (decide (p0.xValue ≠ ([])))) rfl rfl hb31 rfl (Yl.strNe rfl rfl) (WL.valG (v := .bool (decide (p0.xValue ≠ ([])))) rfl rfl rfl rfl (Yl.pickT rfl hb31 rfl) (WL.val (v := .bool (decide (p0.xValue ≠ ([])))) rfl (Yl.pickF rfl rfl rfl) (Mv rfl rfl ?_)))))
  by_cases h32 : p0.xValue ≠ ([])
  refine Sk rfl rfl (decide_eq_true h32) rfl (Sk rfl rfl (decide_eq_true h32) rfl (Sk rfl rfl (decide_eq_true h32) rfl (Sk rfl rfl (decide_eq_true h32) rfl (WL.skipU rfl rfl rfl (WL.skipU rfl rfl rfl (WL.skipU rfl rfl rfl (Sk rfl rfl (decide_eq_true h32) rfl (WL.val (v := .bool true) rfl (Yl.pickT rfl (decide_eq_true h32) rfl) (WL.nil (Fin.then (Wp.cond1 rfl rfl (Wp.seq (Wp.region (As rfl rfl (WL.nil (Fin.then (Wp.ret (Fin.thenR (Fin.res (res1 rfl rfl) ?_)))))))))))))))))))
  have H33 := H23.pick [] (by decide) rfl
  have e : r04_CheckOp p0 = 40 := Eq.trans (if_pos h24) (Eq.trans (if_neg h26) (Eq.trans (if_neg h28) (if_pos h32)))
  obtain rfl := e.symm.trans hr
  exact ⟨rfl, H33, (by omega)⟩
  refine WL.valG (v := .pointer (some ⟨g21, 0, none⟩)) rfl rfl (decide_eq_false h32) rfl (Yl.kern rfl rfl (fun _ => by kernel_rfl)) (WL.valG (v := .int .i64 p0.xKind) rfl rfl (decide_eq_false h32) rfl (Yl.load rfl (Lds.one Tryz.isAgg3 (Cls.of (H23.cls (i := 0) rfl) rfl))) (WL.valG (v := .bool (decide (¬ (p0.xKind = 4)))) rfl rfl (decide_eq_false h32) rfl (Yl.bool (e := !(decide (p0.xKind = 4))) (Yl.kern rfl rfl (fun _ => by kernel_rfl)) decide_not.symm) (WL.valG (v := .bool (decide (¬ (p0.xKind = 4)))) rfl rfl (decide_eq_false h32) rfl (Yl.move rfl) ?_)))
  have hb34 : (decide (¬ (p0.xKind = 4))) = true := (decide_eq_true (by omega))
  refine WL.valG (v := .pointer (some ⟨g21, 5, none⟩)) rfl rfl hb34 rfl (Yl.kern rfl rfl (fun _ => by kernel_rfl)) (WL.valG (v := .int .i64 p0.xMost) rfl rfl hb34 rfl (Yl.load rfl (Lds.one Tryz.isAgg3 (Cls.of (H23.cls (i := 0) rfl) rfl))) (WL.valG (v := .bool (decide (¬ (p0.xMost = 0)))) rfl rfl hb34 rfl (Yl.bool (e := !(decide (p0.xMost = 0))) (Yl.kern rfl rfl (fun _ => by kernel_rfl)) decide_not.symm) (WL.valG (v := .bool (decide (¬ (p0.xMost = 0)))) rfl rfl (decide_eq_false h32) rfl (Yl.pickT rfl hb34 rfl) (WL.val (v := .bool (decide (¬ (p0.xMost = 0)))) rfl (Yl.pickF rfl (decide_eq_false h32) rfl) (WL.nil (Fin.then ?_))))))
  by_cases h35 : p0.xMost = 0
  refine Wp.cond0 rfl (decide_eq_false (not_not_intro h35)) (Wp.skip (Fin.then (Wp.seq (Wp.seq (Wp.region (Mv rfl rfl (Mv rfl rfl (WL.valG (v := .pointer (some ⟨g21, 1, none⟩)) rfl rfl rfl rfl (Yl.kern rfl rfl (fun _ => by kernel_rfl)) (WL.valG (v := .string ⟨List.toArray p0.xKey⟩) rfl rfl rfl rfl (Yl.load rfl (Lds.one Tryz.isAgg9 (Cls.of (H23.cls (i := 0) rfl) rfl))) ?_)))))))))
  obtain ⟨r41, hr42⟩ : ∃ q, r02_CheckKey p0.xKey = q := ⟨_, rfl⟩
  obtain ⟨D36, HP37, ro38, bk39, rr40⟩ := Own.enter0 H23
  refine WL.doG rfl rfl rfl rfl (Do.call Tryz.call42 rfl (r02_CheckKey_ok _ _ p0.xKey r41 HP37 hr42) ?_)
  rintro _ w43 ⟨rfl, HQ44, hk46⟩
  have H45 := bk39 _ _ HQ44
  replace hk46 : ¬ (r41 = 0) ∨ (1 ≤ p0.xKey.length ∧ p0.xKey.length ≤ 12) := hk46
  refine WL.valG (v := .bool (decide (¬ (r41 = 0)))) rfl rfl rfl rfl (Yl.bool (e := !(decide (r41 = 0))) (Yl.kern rfl rfl (fun _ => by kernel_rfl)) decide_not.symm) (WL.val (v := .bool (decide (¬ (r41 = 0)))) rfl (Yl.pickT rfl rfl rfl) (WL.nil (Fin.then ?_)))
  by_cases h47 : r41 = 0
  refine Wp.cond0 rfl (decide_eq_false (not_not_intro h47)) (Wp.skip (Fin.then (Wp.seq (Wp.seq (Wp.region (Kn (v := .pointer (some ⟨g21, 2, none⟩)) rfl rfl rfl (fun _ => by kernel_rfl) (WL.val (v := .string ⟨List.toArray p0.xValue⟩) rfl (Yl.load rfl (Lds.one Tryz.isAgg9 (Cls.of (H45.cls (i := 0) rfl) rfl))) (Kn (v := .int .i64 ((p0.xValue.length : Nat) : Int)) rfl rfl rfl (fun _ => by kernel_rfl) (Kn (v := .bool (decide (((p0.xValue.length : Nat) : Int) > 16))) rfl rfl rfl (fun _ => by kernel_rfl) (WL.nil (Fin.then ?_)))))))))))
  by_cases h48 : ((p0.xValue.length : Nat) : Int) > 16
  refine Wp.cond1 rfl (decide_eq_true h48) (Wp.seq (Wp.region (As rfl rfl (WL.nil (Fin.then (Wp.ret (Fin.thenR (Fin.res (res1 rfl rfl) ?_))))))))
  have H49 := H45.pick [] (by decide) rfl
  have e : r04_CheckOp p0 = 2 := Eq.trans (if_pos h24) (Eq.trans (if_neg h26) (Eq.trans (if_neg h28) (Eq.trans (if_neg h32) (Eq.trans (if_pos h35) (Eq.trans (bnd_of hr42) (Eq.trans (if_pos h47) (if_pos h48)))))))
  obtain rfl := e.symm.trans hr
  exact ⟨rfl, H49, (by omega)⟩
  refine Wp.cond0 rfl (decide_eq_false h48) (Wp.skip (Fin.then (Wp.seq (Wp.seq (Wp.region (Mv rfl rfl (Mv rfl rfl (Sk rfl rfl hb30 rfl (Sk rfl rfl hb30 rfl (Sk rfl rfl hb30 rfl (Sk rfl rfl hb30 rfl (Sk rfl rfl hb30 rfl (Sk rfl rfl hb30 rfl (Sk rfl rfl hb30 rfl (WL.val (v := .bool false) rfl (Yl.pickF rfl hb30 rfl) (WL.nil (Fin.then (Wp.cond0 rfl rfl (Wp.skip (Fin.then (Wp.seq (Wp.seq (Wp.region (Kn (v := .pointer (some ⟨g21, 0, none⟩)) rfl rfl rfl (fun _ => by kernel_rfl) (WL.val (v := .int .i64 p0.xKind) rfl (Yl.load rfl (Lds.one Tryz.isAgg3 (Cls.of (H45.cls (i := 0) rfl) rfl))) (Kn (v := .bool (decide (p0.xKind = 4))) rfl rfl rfl (fun _ => by kernel_rfl) (Mv rfl rfl (Sk rfl rfl hb25 rfl (Sk rfl rfl hb25 rfl (Sk rfl rfl hb25 rfl (Sk rfl rfl hb25 rfl (WL.skipU rfl rfl rfl (WL.skipU rfl rfl rfl (WL.skipU rfl rfl rfl (Sk rfl rfl hb25 rfl (WL.val (v := .bool false) rfl (Yl.pickF rfl hb25 rfl) (WL.nil (Fin.then (Wp.cond0 rfl rfl ?_)))))))))))))))))))))))))))))))))))))))
  refine Wp.skip (Fin.then (Wp.seq (Wp.region (As rfl rfl (WL.nil (Fin.then (Wp.ret (Fin.res (res1 rfl rfl) ?_))))))))
  have H50 := H45.pick [] (by decide) rfl
  have e : r04_CheckOp p0 = 0 := Eq.trans (if_pos h24) (Eq.trans (if_neg h26) (Eq.trans (if_neg h28) (Eq.trans (if_neg h32) (Eq.trans (if_pos h35) (Eq.trans (bnd_of hr42) (Eq.trans (if_pos h47) (if_neg h48)))))))
  obtain rfl := e.symm.trans hr
  exact ⟨rfl, H50, (by omega)⟩
  refine Wp.cond1 rfl (decide_eq_true h47) (Wp.seq (Wp.region (As rfl rfl (WL.nil (Fin.then (Wp.ret (Fin.thenR (Fin.res (res1 rfl rfl) ?_))))))))
  have H51 := H45.pick [] (by decide) rfl
  have e : r04_CheckOp p0 = 20 := Eq.trans (if_pos h24) (Eq.trans (if_neg h26) (Eq.trans (if_neg h28) (Eq.trans (if_neg h32) (Eq.trans (if_pos h35) (Eq.trans (bnd_of hr42) (if_neg h47))))))
  obtain rfl := e.symm.trans hr
  exact ⟨rfl, H51, (by omega)⟩
  refine Wp.cond1 rfl (decide_eq_true h35) (Wp.seq (Wp.region (As rfl rfl (WL.nil (Fin.then (Wp.ret (Fin.thenR (Fin.res (res1 rfl rfl) ?_))))))))
  have H52 := H23.pick [] (by decide) rfl
  have e : r04_CheckOp p0 = 40 := Eq.trans (if_pos h24) (Eq.trans (if_neg h26) (Eq.trans (if_neg h28) (Eq.trans (if_neg h32) (if_neg h35))))
  obtain rfl := e.symm.trans hr
  exact ⟨rfl, H52, (by omega)⟩
  refine WL.valG (v := .pointer (some ⟨g21, 0, none⟩)) rfl rfl (decide_eq_false h24) rfl (Yl.kern rfl rfl (fun _ => by kernel_rfl)) (WL.valG (v := .int .i64 p0.xKind) rfl rfl (decide_eq_false h24) rfl (Yl.load rfl (Lds.one Tryz.isAgg3 (Cls.of (H23.cls (i := 0) rfl) rfl))) (WL.valG (v := .bool (decide (p0.xKind = 2))) rfl rfl (decide_eq_false h24) rfl (Yl.kern rfl rfl (fun _ => by kernel_rfl)) (WL.val (v := .bool (decide (p0.xKind = 2))) rfl (Yl.pickF rfl (decide_eq_false h24) rfl) (Mv rfl rfl ?_))))
  by_cases h53 : p0.xKind = 2
  refine Sk rfl rfl (decide_eq_true h53) rfl (Sk rfl rfl (decide_eq_true h53) rfl (Sk rfl rfl (decide_eq_true h53) rfl (WL.val (v := .bool true) rfl (Yl.pickT rfl (decide_eq_true h53) rfl) (As rfl rfl (WL.nil (Fin.then (Wp.seq (Wp.region (Kn (v := .pointer (some ⟨g21, 0, none⟩)) rfl rfl rfl (fun _ => by kernel_rfl) (WL.val (v := .int .i64 p0.xKind) rfl (Yl.load rfl (Lds.one Tryz.isAgg3 (Cls.of (H23.cls (i := 0) rfl) rfl))) (Kn (v := .bool (decide (p0.xKind = 4))) rfl rfl rfl (fun _ => by kernel_rfl) (Mv rfl rfl ?_))))))))))))
  have hb54 : (decide (p0.xKind = 4)) = false := (decide_eq_false (by omega))
  refine WL.valG (v := .pointer (some ⟨g21, 0, none⟩)) rfl rfl hb54 rfl (Yl.kern rfl rfl (fun _ => by kernel_rfl)) (WL.valG (v := .int .i64 p0.xKind) rfl rfl hb54 rfl (Yl.load rfl (Lds.one Tryz.isAgg3 (Cls.of (H23.cls (i := 0) rfl) rfl))) (WL.valG (v := .bool (decide (p0.xKind = 5))) rfl rfl hb54 rfl (Yl.kern rfl rfl (fun _ => by kernel_rfl)) (WL.val (v := .bool (decide (p0.xKind = 5))) rfl (Yl.pickF rfl hb54 rfl) (As rfl rfl (WL.nil (Fin.then (Wp.seq (Wp.seq (Wp.region (Mv rfl rfl (Kn (v := .bool false) rfl rfl rfl (fun _ => by kernel_rfl) (Mv rfl rfl (Sk rfl rfl rfl rfl (Sk rfl rfl rfl rfl (WL.val (v := .bool false) rfl (Yl.pickF rfl rfl rfl) (Mv rfl rfl (WL.valG (v := .bool true) rfl rfl rfl rfl (Yl.move rfl) (WL.valG (v := .bool true) rfl rfl rfl rfl (Yl.move rfl) (WL.valG (v := .pointer (some ⟨g21, 3, none⟩)) rfl rfl rfl rfl (Yl.kern rfl rfl (fun _ => by kernel_rfl)) (WL.valG (v := .string ⟨List.toArray p0.xLo⟩) rfl rfl rfl rfl (Yl.load rfl (Lds.one Tryz.isAgg9 (Cls.of (H23.cls (i := 0) rfl) rfl))) (WL.valG (v := .bool (decide (p0.xLo ≠ ([])))) rfl rfl rfl rfl (Yl.strNe rfl rfl) (WL.valG (v := .bool (decide (p0.xLo ≠ ([])))) rfl rfl rfl rfl (Yl.move rfl) ?_))))))))))))))))))))))
  by_cases h55 : p0.xLo ≠ ([])
  refine Sk rfl rfl (decide_eq_true h55) rfl (Sk rfl rfl (decide_eq_true h55) rfl (Sk rfl rfl (decide_eq_true h55) rfl (WL.valG (v := .bool true) rfl rfl rfl rfl (Yl.pickT rfl (decide_eq_true h55) rfl) (WL.valG (v := .bool true) rfl rfl rfl rfl (Yl.pickT rfl rfl rfl) (WL.val (v := .bool true) rfl (Yl.pickF rfl rfl rfl) (Mv rfl rfl (Sk rfl rfl rfl rfl (Sk rfl rfl rfl rfl (WL.skipU rfl rfl rfl (WL.skipU rfl rfl rfl (WL.skipU rfl rfl rfl (Sk rfl rfl rfl rfl (WL.val (v := .bool true) rfl (Yl.pickT rfl rfl rfl) (Mv rfl rfl (Sk rfl rfl rfl rfl (Sk rfl rfl rfl rfl (Sk rfl rfl rfl rfl (Sk rfl rfl rfl rfl (WL.skipU rfl rfl rfl (WL.skipU rfl rfl rfl (WL.skipU rfl rfl rfl (Sk rfl rfl rfl rfl (WL.val (v := .bool true) rfl (Yl.pickT rfl rfl rfl) (Mv rfl rfl (Sk rfl rfl rfl rfl (Sk rfl rfl rfl rfl (Sk rfl rfl rfl rfl (Sk rfl rfl rfl rfl (WL.skipU rfl rfl rfl (WL.skipU rfl rfl rfl (WL.skipU rfl rfl rfl (Sk rfl rfl rfl rfl (WL.val (v := .bool true) rfl (Yl.pickT rfl rfl rfl) (WL.nil (Fin.then (Wp.cond1 rfl rfl (Wp.seq (Wp.region (As rfl rfl ?_)))))))))))))))))))))))))))))))))))))))
  refine WL.nil (Fin.then (Wp.ret (Fin.thenR (Fin.res (res1 rfl rfl) ?_))))
  have H56 := H23.pick [] (by decide) rfl
  have e : r04_CheckOp p0 = 40 := Eq.trans (if_neg h24) (Eq.trans (if_pos h53) (if_pos h55))
  obtain rfl := e.symm.trans hr
  exact ⟨rfl, H56, (by omega)⟩
  refine WL.valG (v := .pointer (some ⟨g21, 4, none⟩)) rfl rfl (decide_eq_false h55) rfl (Yl.kern rfl rfl (fun _ => by kernel_rfl)) (WL.valG (v := .string ⟨List.toArray p0.xHi⟩) rfl rfl (decide_eq_false h55) rfl (Yl.load rfl (Lds.one Tryz.isAgg9 (Cls.of (H23.cls (i := 0) rfl) rfl))) (WL.valG (v := .bool (decide (p0.xHi ≠ ([])))) rfl rfl (decide_eq_false h55) rfl (Yl.strNe rfl rfl) (WL.valG (v := .bool (decide (p0.xHi ≠ ([])))) rfl rfl rfl rfl (Yl.pickF rfl (decide_eq_false h55) rfl) (WL.valG (v := .bool (decide (p0.xHi ≠ ([])))) rfl rfl rfl rfl (Yl.pickT rfl rfl rfl) (WL.val (v := .bool (decide (p0.xHi ≠ ([])))) rfl (Yl.pickF rfl rfl rfl) (Mv rfl rfl ?_))))))
  by_cases h57 : p0.xHi ≠ ([])
  refine Sk rfl rfl (decide_eq_true h57) rfl (Sk rfl rfl (decide_eq_true h57) rfl (WL.skipU rfl rfl rfl (WL.skipU rfl rfl rfl (WL.skipU rfl rfl rfl (Sk rfl rfl (decide_eq_true h57) rfl (WL.val (v := .bool true) rfl (Yl.pickT rfl (decide_eq_true h57) rfl) (Mv rfl rfl (Sk rfl rfl rfl rfl (Sk rfl rfl rfl rfl (Sk rfl rfl rfl rfl (Sk rfl rfl rfl rfl (WL.skipU rfl rfl rfl (WL.skipU rfl rfl rfl (WL.skipU rfl rfl rfl (Sk rfl rfl rfl rfl (WL.val (v := .bool true) rfl (Yl.pickT rfl rfl rfl) (Mv rfl rfl (Sk rfl rfl rfl rfl (Sk rfl rfl rfl rfl (Sk rfl rfl rfl rfl (Sk rfl rfl rfl rfl (WL.skipU rfl rfl rfl (WL.skipU rfl rfl rfl (WL.skipU rfl rfl rfl (Sk rfl rfl rfl rfl (WL.val (v := .bool true) rfl (Yl.pickT rfl rfl rfl) (WL.nil (Fin.then (Wp.cond1 rfl rfl (Wp.seq (Wp.region (As rfl rfl (WL.nil (Fin.then (Wp.ret (Fin.thenR (Fin.res (res1 rfl rfl) ?_)))))))))))))))))))))))))))))))))))))
  have H58 := H23.pick [] (by decide) rfl
  have e : r04_CheckOp p0 = 40 := Eq.trans (if_neg h24) (Eq.trans (if_pos h53) (Eq.trans (if_neg h55) (if_pos h57)))
  obtain rfl := e.symm.trans hr
  exact ⟨rfl, H58, (by omega)⟩
  refine WL.valG (v := .bool (decide (p0.xKind = 5))) rfl rfl (decide_eq_false h57) rfl (Yl.move rfl) (WL.valG (v := .bool (decide (p0.xKind = 5))) rfl rfl (decide_eq_false h57) rfl (Yl.move rfl) ?_)
  have hb59 : (decide (p0.xKind = 5)) = false := (decide_eq_false (by omega))
  refine Sk rfl rfl hb59 rfl (Sk rfl rfl hb59 rfl (Sk rfl rfl hb59 rfl (WL.valG (v := .bool false) rfl rfl (decide_eq_false h57) rfl (Yl.pickF rfl hb59 rfl) (WL.val (v := .bool false) rfl (Yl.pickF rfl (decide_eq_false h57) rfl) (Mv rfl rfl (WL.valG (v := .pointer (some ⟨g21, 0, none⟩)) rfl rfl rfl rfl (Yl.kern rfl rfl (fun _ => by kernel_rfl)) (WL.valG (v := .int .i64 p0.xKind) rfl rfl rfl rfl (Yl.load rfl (Lds.one Tryz.isAgg3 (Cls.of (H23.cls (i := 0) rfl) rfl))) (WL.valG (v := .bool (decide (¬ (p0.xKind = 2)))) rfl rfl rfl rfl (Yl.bool (e := !(decide (p0.xKind = 2))) (Yl.kern rfl rfl (fun _ => by kernel_rfl)) decide_not.symm) (WL.valG (v := .bool (decide (¬ (p0.xKind = 2)))) rfl rfl rfl rfl (Yl.move rfl) ?_)))))))))
  have hb60 : (decide (¬ (p0.xKind = 2))) = false := (decide_eq_false (by omega))
  refine Sk rfl rfl hb60 rfl (Sk rfl rfl hb60 rfl (Sk rfl rfl hb60 rfl (WL.valG (v := .bool false) rfl rfl rfl rfl (Yl.pickF rfl hb60 rfl) (WL.val (v := .bool false) rfl (Yl.pickF rfl rfl rfl) (Mv rfl rfl (WL.valG (v := .pointer (some ⟨g21, 0, none⟩)) rfl rfl rfl rfl (Yl.kern rfl rfl (fun _ => by kernel_rfl)) (WL.valG (v := .int .i64 p0.xKind) rfl rfl rfl rfl (Yl.load rfl (Lds.one Tryz.isAgg3 (Cls.of (H23.cls (i := 0) rfl) rfl))) (WL.valG (v := .bool (decide (¬ (p0.xKind = 4)))) rfl rfl rfl rfl (Yl.bool (e := !(decide (p0.xKind = 4))) (Yl.kern rfl rfl (fun _ => by kernel_rfl)) decide_not.symm) (WL.valG (v := .bool (decide (¬ (p0.xKind = 4)))) rfl rfl rfl rfl (Yl.move rfl) ?_)))))))))
  have hb61 : (decide (¬ (p0.xKind = 4))) = true := (decide_eq_true (by omega))
  refine WL.valG (v := .pointer (some ⟨g21, 5, none⟩)) rfl rfl hb61 rfl (Yl.kern rfl rfl (fun _ => by kernel_rfl)) (WL.valG (v := .int .i64 p0.xMost) rfl rfl hb61 rfl (Yl.load rfl (Lds.one Tryz.isAgg3 (Cls.of (H23.cls (i := 0) rfl) rfl))) (WL.valG (v := .bool (decide (¬ (p0.xMost = 0)))) rfl rfl hb61 rfl (Yl.bool (e := !(decide (p0.xMost = 0))) (Yl.kern rfl rfl (fun _ => by kernel_rfl)) decide_not.symm) (WL.valG (v := .bool (decide (¬ (p0.xMost = 0)))) rfl rfl rfl rfl (Yl.pickT rfl hb61 rfl) (WL.val (v := .bool (decide (¬ (p0.xMost = 0)))) rfl (Yl.pickF rfl rfl rfl) (WL.nil (Fin.then ?_))))))
  by_cases h62 : p0.xMost = 0
  refine Wp.cond0 rfl (decide_eq_false (not_not_intro h62)) (Wp.skip (Fin.then (Wp.seq (Wp.seq (Wp.region (Mv rfl rfl (Mv rfl rfl (WL.valG (v := .pointer (some ⟨g21, 1, none⟩)) rfl rfl rfl rfl (Yl.kern rfl rfl (fun _ => by kernel_rfl)) (WL.valG (v := .string ⟨List.toArray p0.xKey⟩) rfl rfl rfl rfl (Yl.load rfl (Lds.one Tryz.isAgg9 (Cls.of (H23.cls (i := 0) rfl) rfl))) ?_)))))))))
  obtain ⟨r68, hr69⟩ : ∃ q, r02_CheckKey p0.xKey = q := ⟨_, rfl⟩
  obtain ⟨D63, HP64, ro65, bk66, rr67⟩ := Own.enter0 H23
  refine WL.doG rfl rfl rfl rfl (Do.call Tryz.call42 rfl (r02_CheckKey_ok _ _ p0.xKey r68 HP64 hr69) ?_)
  rintro _ w70 ⟨rfl, HQ71, hk73⟩
  have H72 := bk66 _ _ HQ71
  replace hk73 : ¬ (r68 = 0) ∨ (1 ≤ p0.xKey.length ∧ p0.xKey.length ≤ 12) := hk73
  refine WL.valG (v := .bool (decide (¬ (r68 = 0)))) rfl rfl rfl rfl (Yl.bool (e := !(decide (r68 = 0))) (Yl.kern rfl rfl (fun _ => by kernel_rfl)) decide_not.symm) (WL.val (v := .bool (decide (¬ (r68 = 0)))) rfl (Yl.pickT rfl rfl rfl) (WL.nil (Fin.then ?_)))
  by_cases h74 : r68 = 0
  refine Wp.cond0 rfl (decide_eq_false (not_not_intro h74)) (Wp.skip (Fin.then (Wp.seq (Wp.seq (Wp.region (Kn (v := .pointer (some ⟨g21, 2, none⟩)) rfl rfl rfl (fun _ => by kernel_rfl) (WL.val (v := .string ⟨List.toArray p0.xValue⟩) rfl (Yl.load rfl (Lds.one Tryz.isAgg9 (Cls.of (H72.cls (i := 0) rfl) rfl))) (Kn (v := .int .i64 ((p0.xValue.length : Nat) : Int)) rfl rfl rfl (fun _ => by kernel_rfl) (Kn (v := .bool (decide (((p0.xValue.length : Nat) : Int) > 16))) rfl rfl rfl (fun _ => by kernel_rfl) (WL.nil (Fin.then ?_)))))))))))
  by_cases h75 : ((p0.xValue.length : Nat) : Int) > 16
  refine Wp.cond1 rfl (decide_eq_true h75) (Wp.seq (Wp.region (As rfl rfl (WL.nil (Fin.then (Wp.ret (Fin.thenR (Fin.res (res1 rfl rfl) ?_))))))))
  have H76 := H72.pick [] (by decide) rfl
  have e : r04_CheckOp p0 = 2 := Eq.trans (if_neg h24) (Eq.trans (if_pos h53) (Eq.trans (if_neg h55) (Eq.trans (if_neg h57) (Eq.trans (if_pos h62) (Eq.trans (bnd_of hr69) (Eq.trans (if_pos h74) (if_pos h75)))))))
  obtain rfl := e.symm.trans hr
  exact ⟨rfl, H76, (by omega)⟩
  refine Wp.cond0 rfl (decide_eq_false h75) (Wp.skip (Fin.then (Wp.seq (Wp.seq (Wp.region (Mv rfl rfl (Mv rfl rfl (Sk rfl rfl hb59 rfl (Sk rfl rfl hb59 rfl (Sk rfl rfl hb59 rfl (Sk rfl rfl hb59 rfl (Sk rfl rfl hb59 rfl (Sk rfl rfl hb59 rfl (Sk rfl rfl hb59 rfl (WL.val (v := .bool false) rfl (Yl.pickF rfl hb59 rfl) (WL.nil (Fin.then (Wp.cond0 rfl rfl (Wp.skip (Fin.then (Wp.seq (Wp.seq (Wp.region (Kn (v := .pointer (some ⟨g21, 0, none⟩)) rfl rfl rfl (fun _ => by kernel_rfl) (WL.val (v := .int .i64 p0.xKind) rfl (Yl.load rfl (Lds.one Tryz.isAgg3 (Cls.of (H72.cls (i := 0) rfl) rfl))) (Kn (v := .bool (decide (p0.xKind = 4))) rfl rfl rfl (fun _ => by kernel_rfl) (Mv rfl rfl (Sk rfl rfl hb54 rfl (Sk rfl rfl hb54 rfl (Sk rfl rfl hb54 rfl (Sk rfl rfl hb54 rfl (WL.skipU rfl rfl rfl (WL.skipU rfl rfl rfl (WL.skipU rfl rfl rfl (Sk rfl rfl hb54 rfl (WL.val (v := .bool false) rfl (Yl.pickF rfl hb54 rfl) (WL.nil (Fin.then (Wp.cond0 rfl rfl ?_)))))))))))))))))))))))))))))))))))))))
  refine Wp.skip (Fin.then (Wp.seq (Wp.region (As rfl rfl (WL.nil (Fin.then (Wp.ret (Fin.res (res1 rfl rfl) ?_))))))))
  have H77 := H72.pick [] (by decide) rfl
  have e : r04_CheckOp p0 = 0 := Eq.trans (if_neg h24) (Eq.trans (if_pos h53) (Eq.trans (if_neg h55) (Eq.trans (if_neg h57) (Eq.trans (if_pos h62) (Eq.trans (bnd_of hr69) (Eq.trans (if_pos h74) (if_neg h75)))))))
  obtain rfl := e.symm.trans hr
  exact ⟨rfl, H77, (by omega)⟩
  refine Wp.cond1 rfl (decide_eq_true h74) (Wp.seq (Wp.region (As rfl rfl (WL.nil (Fin.then (Wp.ret (Fin.thenR (Fin.res (res1 rfl rfl) ?_))))))))
  have H78 := H72.pick [] (by decide) rfl
  have e : r04_CheckOp p0 = 20 := Eq.trans (if_neg h24) (Eq.trans (if_pos h53) (Eq.trans (if_neg h55) (Eq.trans (if_neg h57) (Eq.trans (if_pos h62) (Eq.trans (bnd_of hr69) (if_neg h74))))))
  obtain rfl := e.symm.trans hr
  exact ⟨rfl, H78, (by omega)⟩
  refine Wp.cond1 rfl (decide_eq_true h62) (Wp.seq (Wp.region (As rfl rfl (WL.nil (Fin.then (Wp.ret (Fin.thenR (Fin.res (res1 rfl rfl) ?_))))))))
  have H79 := H23.pick [] (by decide) rfl
  have e : r04_CheckOp p0 = 40 := Eq.trans (if_neg h24) (Eq.trans (if_pos h53) (Eq.trans (if_neg h55) (Eq.trans (if_neg h57) (if_neg h62))))
  obtain rfl := e.symm.trans hr
  exact ⟨rfl, H79, (by omega)⟩
  refine WL.valG (v := .pointer (some ⟨g21, 0, none⟩)) rfl rfl (decide_eq_false h53) rfl (Yl.kern rfl rfl (fun _ => by kernel_rfl)) (WL.valG (v := .int .i64 p0.xKind) rfl rfl (decide_eq_false h53) rfl (Yl.load rfl (Lds.one Tryz.isAgg3 (Cls.of (H23.cls (i := 0) rfl) rfl))) (WL.valG (v := .bool (decide (p0.xKind = 3))) rfl rfl (decide_eq_false h53) rfl (Yl.kern rfl rfl (fun _ => by kernel_rfl)) (WL.val (v := .bool (decide (p0.xKind = 3))) rfl (Yl.pickF rfl (decide_eq_false h53) rfl) (As rfl rfl (WL.nil (Fin.then (Wp.seq (Wp.region (Kn (v := .pointer (some ⟨g21, 0, none⟩)) rfl rfl rfl (fun _ => by kernel_rfl) (WL.val (v := .int .i64 p0.xKind) rfl (Yl.load rfl (Lds.one Tryz.isAgg3 (Cls.of (H23.cls (i := 0) rfl) rfl))) (Kn (v := .bool (decide (p0.xKind = 4))) rfl rfl rfl (fun _ => by kernel_rfl) (Mv rfl rfl ?_))))))))))))
  by_cases h80 : p0.xKind = 4
  refine Sk rfl rfl (decide_eq_true h80) rfl (Sk rfl rfl (decide_eq_true h80) rfl (Sk rfl rfl (decide_eq_true h80) rfl (WL.val (v := .bool true) rfl (Yl.pickT rfl (decide_eq_true h80) rfl) (As rfl rfl (WL.nil (Fin.then (Wp.seq (Wp.seq (Wp.region (Mv rfl rfl (WL.val (v := .bool (decide (¬ (p0.xKind = 3)))) rfl (Yl.bool (e := !(decide (p0.xKind = 3))) (Yl.kern rfl rfl (fun _ => by kernel_rfl)) decide_not.symm) (Mv rfl rfl ?_))))))))))))
  have hb81 : (decide (¬ (p0.xKind = 3))) = true := (decide_eq_true (by omega))
  refine WL.valG (v := .bool true) rfl rfl hb81 rfl (Yl.move rfl) (WL.valG (v := .bool false) rfl rfl hb81 rfl (Yl.kern rfl rfl (fun _ => by kernel_rfl)) (WL.val (v := .bool false) rfl (Yl.pickT rfl hb81 rfl) (Mv rfl rfl (WL.valG (v := .bool (decide (p0.xKind = 3))) rfl rfl rfl rfl (Yl.move rfl) (WL.valG (v := .bool (decide (p0.xKind = 3))) rfl rfl rfl rfl (Yl.move rfl) ?_)))))
  have hb82 : (decide (p0.xKind = 3)) = false := (decide_eq_false (by omega))
  refine Sk rfl rfl hb82 rfl (Sk rfl rfl hb82 rfl (Sk rfl rfl hb82 rfl (Sk rfl rfl hb82 rfl (WL.skipU rfl rfl rfl (WL.skipU rfl rfl rfl (WL.skipU rfl rfl rfl (Sk rfl rfl hb82 rfl (WL.valG (v := .bool false) rfl rfl rfl rfl (Yl.pickF rfl hb82 rfl) (WL.val (v := .bool false) rfl (Yl.pickF rfl rfl rfl) (Mv rfl rfl (WL.valG (v := .bool true) rfl rfl rfl rfl (Yl.move rfl) (WL.valG (v := .bool true) rfl rfl rfl rfl (Yl.move rfl) (WL.valG (v := .pointer (some ⟨g21, 1, none⟩)) rfl rfl rfl rfl (Yl.kern rfl rfl (fun _ => by kernel_rfl)) (WL.valG (v := .string ⟨List.toArray p0.xKey⟩) rfl rfl rfl rfl (Yl.load rfl (Lds.one Tryz.isAgg9 (Cls.of (H23.cls (i := 0) rfl) rfl))) (WL.valG (v := .bool (decide (p0.xKey ≠ ([])))) rfl rfl rfl rfl (Yl.strNe rfl rfl) (WL.valG (v := .bool (decide (p0.xKey ≠ ([])))) rfl rfl rfl rfl (Yl.pickT rfl rfl rfl) (WL.val (v := .bool (decide (p0.xKey ≠ ([])))) rfl (Yl.pickF rfl rfl rfl) (Mv rfl rfl ?_))))))))))))))))))
  by_cases h83 : p0.xKey ≠ ([])
  refine Sk rfl rfl (decide_eq_true h83) rfl (Sk rfl rfl (decide_eq_true h83) rfl (Sk rfl rfl (decide_eq_true h83) rfl (Sk rfl rfl (decide_eq_true h83) rfl (WL.skipU rfl rfl rfl (WL.skipU rfl rfl rfl (WL.skipU rfl rfl rfl (Sk rfl rfl (decide_eq_true h83) rfl (WL.val (v := .bool true) rfl (Yl.pickT rfl (decide_eq_true h83) rfl) (Mv rfl rfl (Sk rfl rfl rfl rfl (Sk rfl rfl rfl rfl (Sk rfl rfl rfl rfl (Sk rfl rfl rfl rfl (WL.skipU rfl rfl rfl (WL.skipU rfl rfl rfl (WL.skipU rfl rfl rfl (Sk rfl rfl rfl rfl (WL.val (v := .bool true) rfl (Yl.pickT rfl rfl rfl) (WL.nil (Fin.then (Wp.cond1 rfl rfl (Wp.seq (Wp.region (As rfl rfl (WL.nil (Fin.then (Wp.ret (Fin.thenR (Fin.res (res1 rfl rfl) ?_)))))))))))))))))))))))))))))
  have H84 := H23.pick [] (by decide) rfl
  have e : r04_CheckOp p0 = 40 := Eq.trans (if_neg h24) (Eq.trans (if_neg h53) (Eq.trans (if_pos h80) (if_pos h83)))
  obtain rfl := e.symm.trans hr
  exact ⟨rfl, H84, (by omega)⟩
  refine WL.valG (v := .pointer (some ⟨g21, 0, none⟩)) rfl rfl (decide_eq_false h83) rfl (Yl.kern rfl rfl (fun _ => by kernel_rfl)) (WL.valG (v := .int .i64 p0.xKind) rfl rfl (decide_eq_false h83) rfl (Yl.load rfl (Lds.one Tryz.isAgg3 (Cls.of (H23.cls (i := 0) rfl) rfl))) (WL.valG (v := .bool (decide (¬ (p0.xKind = 2)))) rfl rfl (decide_eq_false h83) rfl (Yl.bool (e := !(decide (p0.xKind = 2))) (Yl.kern rfl rfl (fun _ => by kernel_rfl)) decide_not.symm) (WL.valG (v := .bool (decide (¬ (p0.xKind = 2)))) rfl rfl (decide_eq_false h83) rfl (Yl.move rfl) ?_)))
  have hb85 : (decide (¬ (p0.xKind = 2))) = true := (decide_eq_true (by omega))
  refine WL.valG (v := .pointer (some ⟨g21, 2, none⟩)) rfl rfl hb85 rfl (Yl.kern rfl rfl (fun _ => by kernel_rfl)) (WL.valG (v := .string ⟨List.toArray p0.xValue⟩) rfl rfl hb85 rfl (Yl.load rfl (Lds.one Tryz.isAgg9 (Cls.of (H23.cls (i := 0) rfl) rfl))) (WL.valG (v := .bool (decide (p0.xValue ≠ ([])))) rfl rfl hb85 rfl (Yl.strNe rfl rfl) (WL.valG (v := .bool (decide (p0.xValue ≠ ([])))) rfl rfl (decide_eq_false h83) rfl (Yl.pickT rfl hb85 rfl) (WL.val (v := .bool (decide (p0.xValue ≠ ([])))) rfl (Yl.pickF rfl (decide_eq_false h83) rfl) (Mv rfl rfl ?_)))))
  by_cases h86 : p0.xValue ≠ ([])
  refine Sk rfl rfl (decide_eq_true h86) rfl (Sk rfl rfl (decide_eq_true h86) rfl (Sk rfl rfl (decide_eq_true h86) rfl (Sk rfl rfl (decide_eq_true h86) rfl (WL.skipU rfl rfl rfl (WL.skipU rfl rfl rfl (WL.skipU rfl rfl rfl (Sk rfl rfl (decide_eq_true h86) rfl (WL.val (v := .bool true) rfl (Yl.pickT rfl (decide_eq_true h86) rfl) (WL.nil (Fin.then (Wp.cond1 rfl rfl (Wp.seq (Wp.region (As rfl rfl (WL.nil (Fin.then (Wp.ret (Fin.thenR (Fin.res (res1 rfl rfl) ?_)))))))))))))))))))
  have H87 := H23.pick [] (by decide) rfl
  have e : r04_CheckOp p0 = 40 := Eq.trans (if_neg h24) (Eq.trans (if_neg h53) (Eq.trans (if_pos h80) (Eq.trans (if_neg h83) (if_pos h86))))
  obtain rfl := e.symm.trans hr
  exact ⟨rfl, H87, (by omega)⟩
  refine WL.valG (v := .pointer (some ⟨g21, 0, none⟩)) rfl rfl (decide_eq_false h86) rfl (Yl.kern rfl rfl (fun _ => by kernel_rfl)) (WL.valG (v := .int .i64 p0.xKind) rfl rfl (decide_eq_false h86) rfl (Yl.load rfl (Lds.one Tryz.isAgg3 (Cls.of (H23.cls (i := 0) rfl) rfl))) (WL.valG (v := .bool (decide (¬ (p0.xKind = 4)))) rfl rfl (decide_eq_false h86) rfl (Yl.bool (e := !(decide (p0.xKind = 4))) (Yl.kern rfl rfl (fun _ => by kernel_rfl)) decide_not.symm) (WL.valG (v := .bool (decide (¬ (p0.xKind = 4)))) rfl rfl (decide_eq_false h86) rfl (Yl.move rfl) ?_)))
  have hb88 : (decide (¬ (p0.xKind = 4))) = false := (decide_eq_false (by omega))
  refine Sk rfl rfl hb88 rfl (Sk rfl rfl hb88 rfl (Sk rfl rfl hb88 rfl (WL.valG (v := .bool false) rfl rfl (decide_eq_false h86) rfl (Yl.pickF rfl hb88 rfl) (WL.val (v := .bool false) rfl (Yl.pickF rfl (decide_eq_false h86) rfl) (WL.nil (Fin.then (Wp.cond0 rfl rfl (Wp.skip (Fin.then (Wp.seq (Wp.seq (Wp.region (Mv rfl rfl (Mv rfl rfl (Sk rfl rfl hb82 rfl (Sk rfl rfl hb82 rfl (Sk rfl rfl hb82 rfl (Sk rfl rfl hb82 rfl (WL.val (v := .bool false) rfl (Yl.pickF rfl hb82 rfl) (WL.nil (Fin.then (Wp.cond0 rfl rfl (Wp.skip (Fin.then (Wp.seq (Wp.seq (Wp.region (Kn (v := .pointer (some ⟨g21, 2, none⟩)) rfl rfl rfl (fun _ => by kernel_rfl) (WL.val (v := .string ⟨List.toArray p0.xValue⟩) rfl (Yl.load rfl (Lds.one Tryz.isAgg9 (Cls.of (H23.cls (i := 0) rfl) rfl))) (Kn (v := .int .i64 ((p0.xValue.length : Nat) : Int)) rfl rfl rfl (fun _ => by kernel_rfl) (Kn (v := .bool (decide (((p0.xValue.length : Nat) : Int) > 16))) rfl rfl rfl (fun _ => by kernel_rfl) (WL.nil (Fin.then ?_)))))))))))))))))))))))))))))))))
  by_cases h89 : ((p0.xValue.length : Nat) : Int) > 16
  refine Wp.cond1 rfl (decide_eq_true h89) (Wp.seq (Wp.region (As rfl rfl (WL.nil (Fin.then (Wp.ret (Fin.thenR (Fin.res (res1 rfl rfl) ?_))))))))
  have H90 := H23.pick [] (by decide) rfl
  have e : r04_CheckOp p0 = 2 := Eq.trans (if_neg h24) (Eq.trans (if_neg h53) (Eq.trans (if_pos h80) (Eq.trans (if_neg h83) (Eq.trans (if_neg h86) (if_pos h89)))))
  obtain rfl := e.symm.trans hr
  exact ⟨rfl, H90, (by omega)⟩
  refine Wp.cond0 rfl (decide_eq_false h89) (Wp.skip (Fin.then (Wp.seq (Wp.seq (Wp.region (Mv rfl rfl (Mv rfl rfl (WL.valG (v := .pointer (some ⟨g21, 3, none⟩)) rfl rfl rfl rfl (Yl.kern rfl rfl (fun _ => by kernel_rfl)) (WL.valG (v := .string ⟨List.toArray p0.xLo⟩) rfl rfl rfl rfl (Yl.load rfl (Lds.one Tryz.isAgg9 (Cls.of (H23.cls (i := 0) rfl) rfl))) (WL.valG (v := .pointer (some ⟨g21, 4, none⟩)) rfl rfl rfl rfl (Yl.kern rfl rfl (fun _ => by kernel_rfl)) (WL.valG (v := .string ⟨List.toArray p0.xHi⟩) rfl rfl rfl rfl (Yl.load rfl (Lds.one Tryz.isAgg9 (Cls.of (H23.cls (i := 0) rfl) rfl))) (WL.valG (v := .agg #[.string ⟨List.toArray p0.xLo⟩, .string ⟨List.toArray p0.xHi⟩]) rfl rfl rfl rfl (Yl.kern rfl rfl (fun _ => by kernel_rfl)) ?_))))))))))))
  obtain ⟨r96, hr97⟩ : ∃ q, r02_Check (RangeD.mk p0.xLo p0.xHi) = q := ⟨_, rfl⟩
  obtain ⟨D91, HP92, ro93, bk94, rr95⟩ := Own.enter0 H23
  refine WL.doG rfl rfl rfl rfl (Do.call Tryz.call45 rfl (r02_Check_ok _ _ (RangeD.mk p0.xLo p0.xHi) r96 HP92 hr97) ?_)
  rintro _ w98 ⟨rfl, HQ99⟩
  have H100 := bk94 _ _ HQ99
  refine WL.valG (v := .bool (decide (¬ (r96 = 0)))) rfl rfl rfl rfl (Yl.bool (e := !(decide (r96 = 0))) (Yl.kern rfl rfl (fun _ => by kernel_rfl)) decide_not.symm) (WL.val (v := .bool (decide (¬ (r96 = 0)))) rfl (Yl.pickT rfl rfl rfl) (WL.nil (Fin.then ?_)))
  by_cases h101 : r96 = 0
  refine Wp.cond0 rfl (decide_eq_false (not_not_intro h101)) (Wp.skip (Fin.then (Wp.seq (Wp.seq (Wp.region (Kn (v := .pointer (some ⟨g21, 0, none⟩)) rfl rfl rfl (fun _ => by kernel_rfl) (WL.val (v := .int .i64 p0.xKind) rfl (Yl.load rfl (Lds.one Tryz.isAgg3 (Cls.of (H100.cls (i := 0) rfl) rfl))) (Kn (v := .bool (decide (p0.xKind = 4))) rfl rfl rfl (fun _ => by kernel_rfl) (Mv rfl rfl (WL.valG (v := .pointer (some ⟨g21, 5, none⟩)) rfl rfl (decide_eq_true h80) rfl (Yl.kern rfl rfl (fun _ => by kernel_rfl)) (WL.valG (v := .int .i64 p0.xMost) rfl rfl (decide_eq_true h80) rfl (Yl.load rfl (Lds.one Tryz.isAgg3 (Cls.of (H100.cls (i := 0) rfl) rfl))) (WL.valG (v := .bool (decide (p0.xMost < 1))) rfl rfl (decide_eq_true h80) rfl (Yl.kern rfl rfl (fun _ => by kernel_rfl)) (WL.valG (v := .bool (decide (p0.xMost < 1))) rfl rfl (decide_eq_true h80) rfl (Yl.move rfl) ?_)))))))))))))
  by_cases h102 : p0.xMost < 1
  refine Sk rfl rfl (decide_eq_true h102) rfl (Sk rfl rfl (decide_eq_true h102) rfl (Sk rfl rfl (decide_eq_true h102) rfl (WL.valG (v := .bool true) rfl rfl (decide_eq_true h80) rfl (Yl.pickT rfl (decide_eq_true h102) rfl) (WL.val (v := .bool true) rfl (Yl.pickT rfl (decide_eq_true h80) rfl) (WL.nil (Fin.then (Wp.cond1 rfl rfl (Wp.seq (Wp.region (As rfl rfl (WL.nil (Fin.then (Wp.ret (Fin.thenR (Fin.res (res1 rfl rfl) ?_)))))))))))))))
  have H103 := H100.pick [] (by decide) rfl
  have e : r04_CheckOp p0 = 1 := Eq.trans (if_neg h24) (Eq.trans (if_neg h53) (Eq.trans (if_pos h80) (Eq.trans (if_neg h83) (Eq.trans (if_neg h86) (Eq.trans (if_neg h89) (Eq.trans (bnd_of hr97) (Eq.trans (if_pos h101) (if_pos h102))))))))
  obtain rfl := e.symm.trans hr
  exact ⟨rfl, H103, (by omega)⟩
  refine WL.valG (v := .pointer (some ⟨g21, 5, none⟩)) rfl rfl (decide_eq_false h102) rfl (Yl.kern rfl rfl (fun _ => by kernel_rfl)) (WL.valG (v := .int .i64 p0.xMost) rfl rfl (decide_eq_false h102) rfl (Yl.load rfl (Lds.one Tryz.isAgg3 (Cls.of (H100.cls (i := 0) rfl) rfl))) (WL.valG (v := .bool (decide (p0.xMost > 4))) rfl rfl (decide_eq_false h102) rfl (Yl.kern rfl rfl (fun _ => by kernel_rfl)) (WL.valG (v := .bool (decide (p0.xMost > 4))) rfl rfl (decide_eq_true h80) rfl (Yl.pickF rfl (decide_eq_false h102) rfl) (WL.val (v := .bool (decide (p0.xMost > 4))) rfl (Yl.pickT rfl (decide_eq_true h80) rfl) (WL.nil (Fin.then ?_))))))
  by_cases h104 : p0.xMost > 4
  refine Wp.cond1 rfl (decide_eq_true h104) (Wp.seq (Wp.region (As rfl rfl (WL.nil (Fin.then (Wp.ret (Fin.thenR (Fin.res (res1 rfl rfl) ?_))))))))
  have H105 := H100.pick [] (by decide) rfl
  have e : r04_CheckOp p0 = 1 := Eq.trans (if_neg h24) (Eq.trans (if_neg h53) (Eq.trans (if_pos h80) (Eq.trans (if_neg h83) (Eq.trans (if_neg h86) (Eq.trans (if_neg h89) (Eq.trans (bnd_of hr97) (Eq.trans (if_pos h101) (Eq.trans (if_neg h102) (if_pos h104)))))))))
  obtain rfl := e.symm.trans hr
  exact ⟨rfl, H105, (by omega)⟩
  refine Wp.cond0 rfl (decide_eq_false h104) (Wp.skip (Fin.then (Wp.seq (Wp.region (As rfl rfl (WL.nil (Fin.then (Wp.ret (Fin.res (res1 rfl rfl) ?_)))))))))
  have H106 := H100.pick [] (by decide) rfl
  have e : r04_CheckOp p0 = 0 := Eq.trans (if_neg h24) (Eq.trans (if_neg h53) (Eq.trans (if_pos h80) (Eq.trans (if_neg h83) (Eq.trans (if_neg h86) (Eq.trans (if_neg h89) (Eq.trans (bnd_of hr97) (Eq.trans (if_pos h101) (Eq.trans (if_neg h102) (if_neg h104)))))))))
  obtain rfl := e.symm.trans hr
  exact ⟨rfl, H106, (by omega)⟩
  refine Wp.cond1 rfl (decide_eq_true h101) (Wp.seq (Wp.region (As rfl rfl (WL.nil (Fin.then (Wp.ret (Fin.thenR (Fin.res (res1 rfl rfl) ?_))))))))
  have H107 := H100.pick [] (by decide) rfl
  have e : r04_CheckOp p0 = 21 := Eq.trans (if_neg h24) (Eq.trans (if_neg h53) (Eq.trans (if_pos h80) (Eq.trans (if_neg h83) (Eq.trans (if_neg h86) (Eq.trans (if_neg h89) (Eq.trans (bnd_of hr97) (if_neg h101)))))))
  obtain rfl := e.symm.trans hr
  exact ⟨rfl, H107, (by omega)⟩
  refine WL.valG (v := .pointer (some ⟨g21, 0, none⟩)) rfl rfl (decide_eq_false h80) rfl (Yl.kern rfl rfl (fun _ => by kernel_rfl)) (WL.valG (v := .int .i64 p0.xKind) rfl rfl (decide_eq_false h80) rfl (Yl.load rfl (Lds.one Tryz.isAgg3 (Cls.of (H23.cls (i := 0) rfl) rfl))) (WL.valG (v := .bool (decide (p0.xKind = 5))) rfl rfl (decide_eq_false h80) rfl (Yl.kern rfl rfl (fun _ => by kernel_rfl)) (WL.val (v := .bool (decide (p0.xKind = 5))) rfl (Yl.pickF rfl (decide_eq_false h80) rfl) (As rfl rfl (WL.nil (Fin.then (Wp.seq (Wp.seq (Wp.region (Mv rfl rfl (WL.val (v := .bool (decide (¬ (p0.xKind = 3)))) rfl (Yl.bool (e := !(decide (p0.xKind = 3))) (Yl.kern rfl rfl (fun _ => by kernel_rfl)) decide_not.symm) (Mv rfl rfl ?_))))))))))))
  by_cases h108 : p0.xKind = 3
  refine Sk rfl rfl (decide_eq_false (not_not_intro h108)) rfl (Sk rfl rfl (decide_eq_false (not_not_intro h108)) rfl (WL.val (v := .bool false) rfl (Yl.pickF rfl (decide_eq_false (not_not_intro h108)) rfl) (Mv rfl rfl (WL.valG (v := .bool (decide (p0.xKind = 3))) rfl rfl rfl rfl (Yl.move rfl) (WL.valG (v := .bool (decide (p0.xKind = 3))) rfl rfl rfl rfl (Yl.move rfl) (WL.valG (v := .pointer (some ⟨g21, 3, none⟩)) rfl rfl (decide_eq_true h108) rfl (Yl.kern rfl rfl (fun _ => by kernel_rfl)) (WL.valG (v := .string ⟨List.toArray p0.xLo⟩) rfl rfl (decide_eq_true h108) rfl (Yl.load rfl (Lds.one Tryz.isAgg9 (Cls.of (H23.cls (i := 0) rfl) rfl))) (WL.valG (v := .bool (decide (p0.xLo ≠ ([])))) rfl rfl (decide_eq_true h108) rfl (Yl.strNe rfl rfl) (WL.valG (v := .bool (decide (p0.xLo ≠ ([])))) rfl rfl (decide_eq_true h108) rfl (Yl.move rfl) ?_)))))))))
  by_cases h109 : p0.xLo ≠ ([])
  refine Sk rfl rfl (decide_eq_true h109) rfl (Sk rfl rfl (decide_eq_true h109) rfl (Sk rfl rfl (decide_eq_true h109) rfl (WL.valG (v := .bool true) rfl rfl (decide_eq_true h108) rfl (Yl.pickT rfl (decide_eq_true h109) rfl) (WL.valG (v := .bool true) rfl rfl rfl rfl (Yl.pickT rfl (decide_eq_true h108) rfl) (WL.val (v := .bool true) rfl (Yl.pickF rfl rfl rfl) (Mv rfl rfl (Sk rfl rfl rfl rfl (Sk rfl rfl rfl rfl (WL.skipU rfl rfl rfl (WL.skipU rfl rfl rfl (WL.skipU rfl rfl rfl (Sk rfl rfl rfl rfl (WL.val (v := .bool true) rfl (Yl.pickT rfl rfl rfl) (Mv rfl rfl (Sk rfl rfl rfl rfl (Sk rfl rfl rfl rfl (Sk rfl rfl rfl rfl (Sk rfl rfl rfl rfl (WL.skipU rfl rfl rfl (WL.skipU rfl rfl rfl (WL.skipU rfl rfl rfl (Sk rfl rfl rfl rfl (WL.val (v := .bool true) rfl (Yl.pickT rfl rfl rfl) (Mv rfl rfl (Sk rfl rfl rfl rfl (Sk rfl rfl rfl rfl (Sk rfl rfl rfl rfl (Sk rfl rfl rfl rfl (WL.skipU rfl rfl rfl (WL.skipU rfl rfl rfl (WL.skipU rfl rfl rfl (Sk rfl rfl rfl rfl (WL.val (v := .bool true) rfl (Yl.pickT rfl rfl rfl) (WL.nil (Fin.then (Wp.cond1 rfl rfl (Wp.seq (Wp.region (As rfl rfl ?_)))))))))))))))))))))))))))))))))))))))
  refine WL.nil (Fin.then (Wp.ret (Fin.thenR (Fin.res (res1 rfl rfl) ?_))))
  have H110 := H23.pick [] (by decide) rfl
  have e : r04_CheckOp p0 = 40 := Eq.trans (if_neg h24) (Eq.trans (if_neg h53) (Eq.trans (if_neg h80) (Eq.trans (if_pos h108) (if_pos h109))))
  obtain rfl := e.symm.trans hr
  exact ⟨rfl, H110, (by omega)⟩
  refine WL.valG (v := .pointer (some ⟨g21, 4, none⟩)) rfl rfl (decide_eq_false h109) rfl (Yl.kern rfl rfl (fun _ => by kernel_rfl)) (WL.valG (v := .string ⟨List.toArray p0.xHi⟩) rfl rfl (decide_eq_false h109) rfl (Yl.load rfl (Lds.one Tryz.isAgg9 (Cls.of (H23.cls (i := 0) rfl) rfl))) (WL.valG (v := .bool (decide (p0.xHi ≠ ([])))) rfl rfl (decide_eq_false h109) rfl (Yl.strNe rfl rfl) (WL.valG (v := .bool (decide (p0.xHi ≠ ([])))) rfl rfl (decide_eq_true h108) rfl (Yl.pickF rfl (decide_eq_false h109) rfl) (WL.valG (v := .bool (decide (p0.xHi ≠ ([])))) rfl rfl rfl rfl (Yl.pickT rfl (decide_eq_true h108) rfl) (WL.val (v := .bool (decide (p0.xHi ≠ ([])))) rfl (Yl.pickF rfl rfl rfl) (Mv rfl rfl ?_))))))
  by_cases h111 : p0.xHi ≠ ([])
  refine Sk rfl rfl (decide_eq_true h111) rfl (Sk rfl rfl (decide_eq_true h111) rfl (WL.skipU rfl rfl rfl (WL.skipU rfl rfl rfl (WL.skipU rfl rfl rfl (Sk rfl rfl (decide_eq_true h111) rfl (WL.val (v := .bool true) rfl (Yl.pickT rfl (decide_eq_true h111) rfl) (Mv rfl rfl (Sk rfl rfl rfl rfl (Sk rfl rfl rfl rfl (Sk rfl rfl rfl rfl (Sk rfl rfl rfl rfl (WL.skipU rfl rfl rfl (WL.skipU rfl rfl rfl (WL.skipU rfl rfl rfl (Sk rfl rfl rfl rfl (WL.val (v := .bool true) rfl (Yl.pickT rfl rfl rfl) (Mv rfl rfl (Sk rfl rfl rfl rfl (Sk rfl rfl rfl rfl (Sk rfl rfl rfl rfl (Sk rfl rfl rfl rfl (WL.skipU rfl rfl rfl (WL.skipU rfl rfl rfl (WL.skipU rfl rfl rfl (Sk rfl rfl rfl rfl (WL.val (v := .bool true) rfl (Yl.pickT rfl rfl rfl) (WL.nil (Fin.then (Wp.cond1 rfl rfl (Wp.seq (Wp.region (As rfl rfl (WL.nil (Fin.then (Wp.ret (Fin.thenR (Fin.res (res1 rfl rfl) ?_)))))))))))))))))))))))))))))))))))))
  have H112 := H23.pick [] (by decide) rfl
  have e : r04_CheckOp p0 = 40 := Eq.trans (if_neg h24) (Eq.trans (if_neg h53) (Eq.trans (if_neg h80) (Eq.trans (if_pos h108) (Eq.trans (if_neg h109) (if_pos h111)))))
  obtain rfl := e.symm.trans hr
  exact ⟨rfl, H112, (by omega)⟩
  refine WL.valG (v := .bool (decide (p0.xKind = 5))) rfl rfl (decide_eq_false h111) rfl (Yl.move rfl) (WL.valG (v := .bool (decide (p0.xKind = 5))) rfl rfl (decide_eq_false h111) rfl (Yl.move rfl) ?_)
  have hb113 : (decide (p0.xKind = 5)) = false := (decide_eq_false (by omega))
  refine Sk rfl rfl hb113 rfl (Sk rfl rfl hb113 rfl (Sk rfl rfl hb113 rfl (WL.valG (v := .bool false) rfl rfl (decide_eq_false h111) rfl (Yl.pickF rfl hb113 rfl) (WL.val (v := .bool false) rfl (Yl.pickF rfl (decide_eq_false h111) rfl) (Mv rfl rfl (WL.valG (v := .pointer (some ⟨g21, 0, none⟩)) rfl rfl rfl rfl (Yl.kern rfl rfl (fun _ => by kernel_rfl)) (WL.valG (v := .int .i64 p0.xKind) rfl rfl rfl rfl (Yl.load rfl (Lds.one Tryz.isAgg3 (Cls.of (H23.cls (i := 0) rfl) rfl))) (WL.valG (v := .bool (decide (¬ (p0.xKind = 2)))) rfl rfl rfl rfl (Yl.bool (e := !(decide (p0.xKind = 2))) (Yl.kern rfl rfl (fun _ => by kernel_rfl)) decide_not.symm) (WL.valG (v := .bool (decide (¬ (p0.xKind = 2)))) rfl rfl rfl rfl (Yl.move rfl) ?_)))))))))
  have hb114 : (decide (¬ (p0.xKind = 2))) = true := (decide_eq_true (by omega))
  refine WL.valG (v := .pointer (some ⟨g21, 2, none⟩)) rfl rfl hb114 rfl (Yl.kern rfl rfl (fun _ => by kernel_rfl)) (WL.valG (v := .string ⟨List.toArray p0.xValue⟩) rfl rfl hb114 rfl (Yl.load rfl (Lds.one Tryz.isAgg9 (Cls.of (H23.cls (i := 0) rfl) rfl))) (WL.valG (v := .bool (decide (p0.xValue ≠ ([])))) rfl rfl hb114 rfl (Yl.strNe rfl rfl) (WL.valG (v := .bool (decide (p0.xValue ≠ ([])))) rfl rfl rfl rfl (Yl.pickT rfl hb114 rfl) (WL.val (v := .bool (decide (p0.xValue ≠ ([])))) rfl (Yl.pickF rfl rfl rfl) (Mv rfl rfl ?_)))))
  by_cases h115 : p0.xValue ≠ ([])
  refine Sk rfl rfl (decide_eq_true h115) rfl (Sk rfl rfl (decide_eq_true h115) rfl (Sk rfl rfl (decide_eq_true h115) rfl (Sk rfl rfl (decide_eq_true h115) rfl (WL.skipU rfl rfl rfl (WL.skipU rfl rfl rfl (WL.skipU rfl rfl rfl (Sk rfl rfl (decide_eq_true h115) rfl (WL.val (v := .bool true) rfl (Yl.pickT rfl (decide_eq_true h115) rfl) (WL.nil (Fin.then (Wp.cond1 rfl rfl (Wp.seq (Wp.region (As rfl rfl (WL.nil (Fin.then (Wp.ret (Fin.thenR (Fin.res (res1 rfl rfl) ?_)))))))))))))))))))
  have H116 := H23.pick [] (by decide) rfl
  have e : r04_CheckOp p0 = 40 := Eq.trans (if_neg h24) (Eq.trans (if_neg h53) (Eq.trans (if_neg h80) (Eq.trans (if_pos h108) (Eq.trans (if_neg h109) (Eq.trans (if_neg h111) (if_pos h115))))))
  obtain rfl := e.symm.trans hr
  exact ⟨rfl, H116, (by omega)⟩
  refine WL.valG (v := .pointer (some ⟨g21, 0, none⟩)) rfl rfl (decide_eq_false h115) rfl (Yl.kern rfl rfl (fun _ => by kernel_rfl)) (WL.valG (v := .int .i64 p0.xKind) rfl rfl (decide_eq_false h115) rfl (Yl.load rfl (Lds.one Tryz.isAgg3 (Cls.of (H23.cls (i := 0) rfl) rfl))) (WL.valG (v := .bool (decide (¬ (p0.xKind = 4)))) rfl rfl (decide_eq_false h115) rfl (Yl.bool (e := !(decide (p0.xKind = 4))) (Yl.kern rfl rfl (fun _ => by kernel_rfl)) decide_not.symm) (WL.valG (v := .bool (decide (¬ (p0.xKind = 4)))) rfl rfl (decide_eq_false h115) rfl (Yl.move rfl) ?_)))
  have hb117 : (decide (¬ (p0.xKind = 4))) = true := (decide_eq_true (by omega))
  refine WL.valG (v := .pointer (some ⟨g21, 5, none⟩)) rfl rfl hb117 rfl (Yl.kern rfl rfl (fun _ => by kernel_rfl)) (WL.valG (v := .int .i64 p0.xMost) rfl rfl hb117 rfl (Yl.load rfl (Lds.one Tryz.isAgg3 (Cls.of (H23.cls (i := 0) rfl) rfl))) (WL.valG (v := .bool (decide (¬ (p0.xMost = 0)))) rfl rfl hb117 rfl (Yl.bool (e := !(decide (p0.xMost = 0))) (Yl.kern rfl rfl (fun _ => by kernel_rfl)) decide_not.symm) (WL.valG (v := .bool (decide (¬ (p0.xMost = 0)))) rfl rfl (decide_eq_false h115) rfl (Yl.pickT rfl hb117 rfl) (WL.val (v := .bool (decide (¬ (p0.xMost = 0)))) rfl (Yl.pickF rfl (decide_eq_false h115) rfl) (WL.nil (Fin.then ?_))))))
  by_cases h118 : p0.xMost = 0
  refine Wp.cond0 rfl (decide_eq_false (not_not_intro h118)) (Wp.skip (Fin.then (Wp.seq (Wp.seq (Wp.region (Mv rfl rfl (Mv rfl rfl (WL.valG (v := .pointer (some ⟨g21, 1, none⟩)) rfl rfl (decide_eq_true h108) rfl (Yl.kern rfl rfl (fun _ => by kernel_rfl)) (WL.valG (v := .string ⟨List.toArray p0.xKey⟩) rfl rfl (decide_eq_true h108) rfl (Yl.load rfl (Lds.one Tryz.isAgg9 (Cls.of (H23.cls (i := 0) rfl) rfl))) ?_)))))))))
  obtain ⟨r124, hr125⟩ : ∃ q, r02_CheckKey p0.xKey = q := ⟨_, rfl⟩
  obtain ⟨D119, HP120, ro121, bk122, rr123⟩ := Own.enter0 H23
  refine WL.doG rfl rfl (decide_eq_true h108) rfl (Do.call Tryz.call42 rfl (r02_CheckKey_ok _ _ p0.xKey r124 HP120 hr125) ?_)
  rintro _ w126 ⟨rfl, HQ127, hk129⟩
  have H128 := bk122 _ _ HQ127
  replace hk129 : ¬ (r124 = 0) ∨ (1 ≤ p0.xKey.length ∧ p0.xKey.length ≤ 12) := hk129
  refine WL.valG (v := .bool (decide (¬ (r124 = 0)))) rfl rfl (decide_eq_true h108) rfl (Yl.bool (e := !(decide (r124 = 0))) (Yl.kern rfl rfl (fun _ => by kernel_rfl)) decide_not.symm) (WL.val (v := .bool (decide (¬ (r124 = 0)))) rfl (Yl.pickT rfl (decide_eq_true h108) rfl) (WL.nil (Fin.then ?_)))
  by_cases h130 : r124 = 0
  refine Wp.cond0 rfl (decide_eq_false (not_not_intro h130)) (Wp.skip (Fin.then (Wp.seq (Wp.seq (Wp.region (Kn (v := .pointer (some ⟨g21, 2, none⟩)) rfl rfl rfl (fun _ => by kernel_rfl) (WL.val (v := .string ⟨List.toArray p0.xValue⟩) rfl (Yl.load rfl (Lds.one Tryz.isAgg9 (Cls.of (H128.cls (i := 0) rfl) rfl))) (Kn (v := .int .i64 ((p0.xValue.length : Nat) : Int)) rfl rfl rfl (fun _ => by kernel_rfl) (Kn (v := .bool (decide (((p0.xValue.length : Nat) : Int) > 16))) rfl rfl rfl (fun _ => by kernel_rfl) (WL.nil (Fin.then ?_)))))))))))
  by_cases h131 : ((p0.xValue.length : Nat) : Int) > 16
  refine Wp.cond1 rfl (decide_eq_true h131) (Wp.seq (Wp.region (As rfl rfl (WL.nil (Fin.then (Wp.ret (Fin.thenR (Fin.res (res1 rfl rfl) ?_))))))))
  have H132 := H128.pick [] (by decide) rfl
  have e : r04_CheckOp p0 = 2 := Eq.trans (if_neg h24) (Eq.trans (if_neg h53) (Eq.trans (if_neg h80) (Eq.trans (if_pos h108) (Eq.trans (if_neg h109) (Eq.trans (if_neg h111) (Eq.trans (if_neg h115) (Eq.trans (if_pos h118) (Eq.trans (bnd_of hr125) (Eq.trans (if_pos h130) (if_pos h131))))))))))
  obtain rfl := e.symm.trans hr
  exact ⟨rfl, H132, (by omega)⟩
  refine Wp.cond0 rfl (decide_eq_false h131) (Wp.skip (Fin.then (Wp.seq (Wp.seq (Wp.region (Mv rfl rfl (Mv rfl rfl (Sk rfl rfl hb113 rfl (Sk rfl rfl hb113 rfl (Sk rfl rfl hb113 rfl (Sk rfl rfl hb113 rfl (Sk rfl rfl hb113 rfl (Sk rfl rfl hb113 rfl (Sk rfl rfl hb113 rfl (WL.val (v := .bool false) rfl (Yl.pickF rfl hb113 rfl) (WL.nil (Fin.then (Wp.cond0 rfl rfl (Wp.skip (Fin.then (Wp.seq (Wp.seq (Wp.region (Kn (v := .pointer (some ⟨g21, 0, none⟩)) rfl rfl rfl (fun _ => by kernel_rfl) (WL.val (v := .int .i64 p0.xKind) rfl (Yl.load rfl (Lds.one Tryz.isAgg3 (Cls.of (H128.cls (i := 0) rfl) rfl))) (Kn (v := .bool (decide (p0.xKind = 4))) rfl rfl rfl (fun _ => by kernel_rfl) (Mv rfl rfl (Sk rfl rfl (decide_eq_false h80) rfl (Sk rfl rfl (decide_eq_false h80) rfl (Sk rfl rfl (decide_eq_false h80) rfl (Sk rfl rfl (decide_eq_false h80) rfl (WL.skipU rfl rfl rfl (WL.skipU rfl rfl rfl (WL.skipU rfl rfl rfl (Sk rfl rfl (decide_eq_false h80) rfl (WL.val (v := .bool false) rfl (Yl.pickF rfl (decide_eq_false h80) rfl) (WL.nil (Fin.then (Wp.cond0 rfl rfl ?_)))))))))))))))))))))))))))))))))))))))
  refine Wp.skip (Fin.then (Wp.seq (Wp.region (As rfl rfl (WL.nil (Fin.then (Wp.ret (Fin.res (res1 rfl rfl) ?_))))))))
  have H133 := H128.pick [] (by decide) rfl
  have e : r04_CheckOp p0 = 0 := Eq.trans (if_neg h24) (Eq.trans (if_neg h53) (Eq.trans (if_neg h80) (Eq.trans (if_pos h108) (Eq.trans (if_neg h109) (Eq.trans (if_neg h111) (Eq.trans (if_neg h115) (Eq.trans (if_pos h118) (Eq.trans (bnd_of hr125) (Eq.trans (if_pos h130) (if_neg h131))))))))))
  obtain rfl := e.symm.trans hr
  exact ⟨rfl, H133, (by omega)⟩
  refine Wp.cond1 rfl (decide_eq_true h130) (Wp.seq (Wp.region (As rfl rfl (WL.nil (Fin.then (Wp.ret (Fin.thenR (Fin.res (res1 rfl rfl) ?_))))))))
  have H134 := H128.pick [] (by decide) rfl
  have e : r04_CheckOp p0 = 20 := Eq.trans (if_neg h24) (Eq.trans (if_neg h53) (Eq.trans (if_neg h80) (Eq.trans (if_pos h108) (Eq.trans (if_neg h109) (Eq.trans (if_neg h111) (Eq.trans (if_neg h115) (Eq.trans (if_pos h118) (Eq.trans (bnd_of hr125) (if_neg h130)))))))))
  obtain rfl := e.symm.trans hr
  exact ⟨rfl, H134, (by omega)⟩
  refine Wp.cond1 rfl (decide_eq_true h118) (Wp.seq (Wp.region (As rfl rfl (WL.nil (Fin.then (Wp.ret (Fin.thenR (Fin.res (res1 rfl rfl) ?_))))))))
  have H135 := H23.pick [] (by decide) rfl
  have e : r04_CheckOp p0 = 40 := Eq.trans (if_neg h24) (Eq.trans (if_neg h53) (Eq.trans (if_neg h80) (Eq.trans (if_pos h108) (Eq.trans (if_neg h109) (Eq.trans (if_neg h111) (Eq.trans (if_neg h115) (if_neg h118)))))))
  obtain rfl := e.symm.trans hr
  exact ⟨rfl, H135, (by omega)⟩
  refine WL.valG (v := .bool (decide (p0.xKind = 5))) rfl rfl (decide_eq_true h108) rfl (Yl.move rfl) (WL.valG (v := .bool (decide (¬ (p0.xKind = 5)))) rfl rfl (decide_eq_true h108) rfl (Yl.bool (e := !(decide (p0.xKind = 5))) (Yl.kern rfl rfl (fun _ => by kernel_rfl)) decide_not.symm) (WL.val (v := .bool (decide (¬ (p0.xKind = 5)))) rfl (Yl.pickT rfl (decide_eq_true h108) rfl) (Mv rfl rfl ?_)))
  by_cases h136 : p0.xKind = 5
  refine WL.valG (v := .bool (decide (p0.xKind = 3))) rfl rfl (decide_eq_false (not_not_intro h136)) rfl (Yl.move rfl) (WL.valG (v := .bool (decide (p0.xKind = 3))) rfl rfl (decide_eq_false (not_not_intro h136)) rfl (Yl.move rfl) (Sk rfl rfl (decide_eq_false h108) rfl (Sk rfl rfl (decide_eq_false h108) rfl (Sk rfl rfl (decide_eq_false h108) rfl (Sk rfl rfl (decide_eq_false h108) rfl (WL.skipU rfl rfl rfl (WL.skipU rfl rfl rfl (WL.skipU rfl rfl rfl (Sk rfl rfl (decide_eq_false h108) rfl (WL.valG (v := .bool false) rfl rfl (decide_eq_false (not_not_intro h136)) rfl (Yl.pickF rfl (decide_eq_false h108) rfl) (WL.val (v := .bool false) rfl (Yl.pickF rfl (decide_eq_false (not_not_intro h136)) rfl) (Mv rfl rfl (WL.valG (v := .bool (decide (p0.xKind = 5))) rfl rfl rfl rfl (Yl.move rfl) (WL.valG (v := .bool (decide (p0.xKind = 5))) rfl rfl rfl rfl (Yl.move rfl) (WL.valG (v := .pointer (some ⟨g21, 1, none⟩)) rfl rfl (decide_eq_true h136) rfl (Yl.kern rfl rfl (fun _ => by kernel_rfl)) (WL.valG (v := .string ⟨List.toArray p0.xKey⟩) rfl rfl (decide_eq_true h136) rfl (Yl.load rfl (Lds.one Tryz.isAgg9 (Cls.of (H23.cls (i := 0) rfl) rfl))) (WL.valG (v := .bool (decide (p0.xKey ≠ ([])))) rfl rfl (decide_eq_true h136) rfl (Yl.strNe rfl rfl) (WL.valG (v := .bool (decide (p0.xKey ≠ ([])))) rfl rfl rfl rfl (Yl.pickT rfl (decide_eq_true h136) rfl) (WL.val (v := .bool (decide (p0.xKey ≠ ([])))) rfl (Yl.pickF rfl rfl rfl) (Mv rfl rfl ?_))))))))))))))))))))
  by_cases h137 : p0.xKey ≠ ([])
  refine Sk rfl rfl (decide_eq_true h137) rfl (Sk rfl rfl (decide_eq_true h137) rfl (Sk rfl rfl (decide_eq_true h137) rfl (Sk rfl rfl (decide_eq_true h137) rfl (WL.skipU rfl rfl rfl (WL.skipU rfl rfl rfl (WL.skipU rfl rfl rfl (Sk rfl rfl (decide_eq_true h137) rfl (WL.val (v := .bool true) rfl (Yl.pickT rfl (decide_eq_true h137) rfl) (Mv rfl rfl (Sk rfl rfl rfl rfl (Sk rfl rfl rfl rfl (Sk rfl rfl rfl rfl (Sk rfl rfl rfl rfl (WL.skipU rfl rfl rfl (WL.skipU rfl rfl rfl (WL.skipU rfl rfl rfl (Sk rfl rfl rfl rfl (WL.val (v := .bool true) rfl (Yl.pickT rfl rfl rfl) (WL.nil (Fin.then (Wp.cond1 rfl rfl (Wp.seq (Wp.region (As rfl rfl (WL.nil (Fin.then (Wp.ret (Fin.thenR (Fin.res (res1 rfl rfl) ?_)))))))))))))))))))))))))))))
  have H138 := H23.pick [] (by decide) rfl
  have e : r04_CheckOp p0 = 40 := Eq.trans (if_neg h24) (Eq.trans (if_neg h53) (Eq.trans (if_neg h80) (Eq.trans (if_neg h108) (Eq.trans (if_pos h136) (if_pos h137)))))
  obtain rfl := e.symm.trans hr
  exact ⟨rfl, H138, (by omega)⟩
  refine WL.valG (v := .pointer (some ⟨g21, 0, none⟩)) rfl rfl (decide_eq_false h137) rfl (Yl.kern rfl rfl (fun _ => by kernel_rfl)) (WL.valG (v := .int .i64 p0.xKind) rfl rfl (decide_eq_false h137) rfl (Yl.load rfl (Lds.one Tryz.isAgg3 (Cls.of (H23.cls (i := 0) rfl) rfl))) (WL.valG (v := .bool (decide (¬ (p0.xKind = 2)))) rfl rfl (decide_eq_false h137) rfl (Yl.bool (e := !(decide (p0.xKind = 2))) (Yl.kern rfl rfl (fun _ => by kernel_rfl)) decide_not.symm) (WL.valG (v := .bool (decide (¬ (p0.xKind = 2)))) rfl rfl (decide_eq_false h137) rfl (Yl.move rfl) ?_)))
  have hb139 : (decide (¬ (p0.xKind = 2))) = true := (decide_eq_true (by omega))
  refine WL.valG (v := .pointer (some ⟨g21, 2, none⟩)) rfl rfl hb139 rfl (Yl.kern rfl rfl (fun _ => by kernel_rfl)) (WL.valG (v := .string ⟨List.toArray p0.xValue⟩) rfl rfl hb139 rfl (Yl.load rfl (Lds.one Tryz.isAgg9 (Cls.of (H23.cls (i := 0) rfl) rfl))) (WL.valG (v := .bool (decide (p0.xValue ≠ ([])))) rfl rfl hb139 rfl (Yl.strNe rfl rfl) (WL.valG (v := .bool (decide (p0.xValue ≠ ([])))) rfl rfl (decide_eq_false h137) rfl (Yl.pickT rfl hb139 rfl) (WL.val (v := .bool (decide (p0.xValue ≠ ([])))) rfl (Yl.pickF rfl (decide_eq_false h137) rfl) (Mv rfl rfl ?_)))))
  by_cases h140 : p0.xValue ≠ ([])
  refine Sk rfl rfl (decide_eq_true h140) rfl (Sk rfl rfl (decide_eq_true h140) rfl (Sk rfl rfl (decide_eq_true h140) rfl (Sk rfl rfl (decide_eq_true h140) rfl (WL.skipU rfl rfl rfl (WL.skipU rfl rfl rfl (WL.skipU rfl rfl rfl (Sk rfl rfl (decide_eq_true h140) rfl (WL.val (v := .bool true) rfl (Yl.pickT rfl (decide_eq_true h140) rfl) (WL.nil (Fin.then (Wp.cond1 rfl rfl (Wp.seq (Wp.region (As rfl rfl (WL.nil (Fin.then (Wp.ret (Fin.thenR (Fin.res (res1 rfl rfl) ?_)))))))))))))))))))
  have H141 := H23.pick [] (by decide) rfl
  have e : r04_CheckOp p0 = 40 := Eq.trans (if_neg h24) (Eq.trans (if_neg h53) (Eq.trans (if_neg h80) (Eq.trans (if_neg h108) (Eq.trans (if_pos h136) (Eq.trans (if_neg h137) (if_pos h140))))))
  obtain rfl := e.symm.trans hr
  exact ⟨rfl, H141, (by omega)⟩
  refine WL.valG (v := .pointer (some ⟨g21, 0, none⟩)) rfl rfl (decide_eq_false h140) rfl (Yl.kern rfl rfl (fun _ => by kernel_rfl)) (WL.valG (v := .int .i64 p0.xKind) rfl rfl (decide_eq_false h140) rfl (Yl.load rfl (Lds.one Tryz.isAgg3 (Cls.of (H23.cls (i := 0) rfl) rfl))) (WL.valG (v := .bool (decide (¬ (p0.xKind = 4)))) rfl rfl (decide_eq_false h140) rfl (Yl.bool (e := !(decide (p0.xKind = 4))) (Yl.kern rfl rfl (fun _ => by kernel_rfl)) decide_not.symm) (WL.valG (v := .bool (decide (¬ (p0.xKind = 4)))) rfl rfl (decide_eq_false h140) rfl (Yl.move rfl) ?_)))
  have hb142 : (decide (¬ (p0.xKind = 4))) = true := (decide_eq_true (by omega))
  refine WL.valG (v := .pointer (some ⟨g21, 5, none⟩)) rfl rfl hb142 rfl (Yl.kern rfl rfl (fun _ => by kernel_rfl)) (WL.valG (v := .int .i64 p0.xMost) rfl rfl hb142 rfl (Yl.load rfl (Lds.one Tryz.isAgg3 (Cls.of (H23.cls (i := 0) rfl) rfl))) (WL.valG (v := .bool (decide (¬ (p0.xMost = 0)))) rfl rfl hb142 rfl (Yl.bool (e := !(decide (p0.xMost = 0))) (Yl.kern rfl rfl (fun _ => by kernel_rfl)) decide_not.symm) (WL.valG (v := .bool (decide (¬ (p0.xMost = 0)))) rfl rfl (decide_eq_false h140) rfl (Yl.pickT rfl hb142 rfl) (WL.val (v := .bool (decide (¬ (p0.xMost = 0)))) rfl (Yl.pickF rfl (decide_eq_false h140) rfl) (WL.nil (Fin.then ?_))))))
  by_cases h143 : p0.xMost = 0
  refine Wp.cond0 rfl (decide_eq_false (not_not_intro h143)) (Wp.skip (Fin.then (Wp.seq (Wp.seq (Wp.region (Mv rfl rfl (Mv rfl rfl (Sk rfl rfl (decide_eq_false h108) rfl (Sk rfl rfl (decide_eq_false h108) rfl (Sk rfl rfl (decide_eq_false h108) rfl (Sk rfl rfl (decide_eq_false h108) rfl (WL.val (v := .bool false) rfl (Yl.pickF rfl (decide_eq_false h108) rfl) (WL.nil (Fin.then (Wp.cond0 rfl rfl (Wp.skip (Fin.then (Wp.seq (Wp.seq (Wp.region (Kn (v := .pointer (some ⟨g21, 2, none⟩)) rfl rfl rfl (fun _ => by kernel_rfl) (WL.val (v := .string ⟨List.toArray p0.xValue⟩) rfl (Yl.load rfl (Lds.one Tryz.isAgg9 (Cls.of (H23.cls (i := 0) rfl) rfl))) (Kn (v := .int .i64 ((p0.xValue.length : Nat) : Int)) rfl rfl rfl (fun _ => by kernel_rfl) (Kn (v := .bool (decide (((p0.xValue.length : Nat) : Int) > 16))) rfl rfl rfl (fun _ => by kernel_rfl) (WL.nil (Fin.then ?_))))))))))))))))))))))))))
  by_cases h144 : ((p0.xValue.length : Nat) : Int) > 16
  refine Wp.cond1 rfl (decide_eq_true h144) (Wp.seq (Wp.region (As rfl rfl (WL.nil (Fin.then (Wp.ret (Fin.thenR (Fin.res (res1 rfl rfl) ?_))))))))
  have H145 := H23.pick [] (by decide) rfl
  have e : r04_CheckOp p0 = 2 := Eq.trans (if_neg h24) (Eq.trans (if_neg h53) (Eq.trans (if_neg h80) (Eq.trans (if_neg h108) (Eq.trans (if_pos h136) (Eq.trans (if_neg h137) (Eq.trans (if_neg h140) (Eq.trans (if_pos h143) (if_pos h144))))))))
  obtain rfl := e.symm.trans hr
  exact ⟨rfl, H145, (by omega)⟩
  refine Wp.cond0 rfl (decide_eq_false h144) (Wp.skip (Fin.then (Wp.seq (Wp.seq (Wp.region (Mv rfl rfl (Mv rfl rfl (WL.valG (v := .pointer (some ⟨g21, 3, none⟩)) rfl rfl (decide_eq_true h136) rfl (Yl.kern rfl rfl (fun _ => by kernel_rfl)) (WL.valG (v := .string ⟨List.toArray p0.xLo⟩) rfl rfl (decide_eq_true h136) rfl (Yl.load rfl (Lds.one Tryz.isAgg9 (Cls.of (H23.cls (i := 0) rfl) rfl))) (WL.valG (v := .pointer (some ⟨g21, 4, none⟩)) rfl rfl (decide_eq_true h136) rfl (Yl.kern rfl rfl (fun _ => by kernel_rfl)) (WL.valG (v := .string ⟨List.toArray p0.xHi⟩) rfl rfl (decide_eq_true h136) rfl (Yl.load rfl (Lds.one Tryz.isAgg9 (Cls.of (H23.cls (i := 0) rfl) rfl))) (WL.valG (v := .agg #[.string ⟨List.toArray p0.xLo⟩, .string ⟨List.toArray p0.xHi⟩]) rfl rfl (decide_eq_true h136) rfl (Yl.kern rfl rfl (fun _ => by kernel_rfl)) ?_))))))))))))
  obtain ⟨r151, hr152⟩ : ∃ q, r02_Check (RangeD.mk p0.xLo p0.xHi) = q := ⟨_, rfl⟩
  obtain ⟨D146, HP147, ro148, bk149, rr150⟩ := Own.enter0 H23
  refine WL.doG rfl rfl (decide_eq_true h136) rfl (Do.call Tryz.call45 rfl (r02_Check_ok _ _ (RangeD.mk p0.xLo p0.xHi) r151 HP147 hr152) ?_)
  rintro _ w153 ⟨rfl, HQ154⟩
  have H155 := bk149 _ _ HQ154
  refine WL.valG (v := .bool (decide (¬ (r151 = 0)))) rfl rfl (decide_eq_true h136) rfl (Yl.bool (e := !(decide (r151 = 0))) (Yl.kern rfl rfl (fun _ => by kernel_rfl)) decide_not.symm) (WL.val (v := .bool (decide (¬ (r151 = 0)))) rfl (Yl.pickT rfl (decide_eq_true h136) rfl) (WL.nil (Fin.then ?_)))
  by_cases h156 : r151 = 0
  refine Wp.cond0 rfl (decide_eq_false (not_not_intro h156)) (Wp.skip (Fin.then (Wp.seq (Wp.seq (Wp.region (Kn (v := .pointer (some ⟨g21, 0, none⟩)) rfl rfl rfl (fun _ => by kernel_rfl) (WL.val (v := .int .i64 p0.xKind) rfl (Yl.load rfl (Lds.one Tryz.isAgg3 (Cls.of (H155.cls (i := 0) rfl) rfl))) (Kn (v := .bool (decide (p0.xKind = 4))) rfl rfl rfl (fun _ => by kernel_rfl) (Mv rfl rfl (Sk rfl rfl (decide_eq_false h80) rfl (Sk rfl rfl (decide_eq_false h80) rfl (Sk rfl rfl (decide_eq_false h80) rfl (Sk rfl rfl (decide_eq_false h80) rfl (WL.skipU rfl rfl rfl (WL.skipU rfl rfl rfl (WL.skipU rfl rfl rfl (Sk rfl rfl (decide_eq_false h80) rfl (WL.val (v := .bool false) rfl (Yl.pickF rfl (decide_eq_false h80) rfl) (WL.nil (Fin.then (Wp.cond0 rfl rfl (Wp.skip (Fin.then (Wp.seq (Wp.region (As rfl rfl (WL.nil (Fin.then (Wp.ret (Fin.res (res1 rfl rfl) ?_))))))))))))))))))))))))))))))
  have H157 := H155.pick [] (by decide) rfl
  have e : r04_CheckOp p0 = 0 := Eq.trans (if_neg h24) (Eq.trans (if_neg h53) (Eq.trans (if_neg h80) (Eq.trans (if_neg h108) (Eq.trans (if_pos h136) (Eq.trans (if_neg h137) (Eq.trans (if_neg h140) (Eq.trans (if_pos h143) (Eq.trans (if_neg h144) (Eq.trans (bnd_of hr152) (if_pos h156))))))))))
  obtain rfl := e.symm.trans hr
  exact ⟨rfl, H157, (by omega)⟩
  refine Wp.cond1 rfl (decide_eq_true h156) (Wp.seq (Wp.region (As rfl rfl (WL.nil (Fin.then (Wp.ret (Fin.thenR (Fin.res (res1 rfl rfl) ?_))))))))
  have H158 := H155.pick [] (by decide) rfl
  have e : r04_CheckOp p0 = 21 := Eq.trans (if_neg h24) (Eq.trans (if_neg h53) (Eq.trans (if_neg h80) (Eq.trans (if_neg h108) (Eq.trans (if_pos h136) (Eq.trans (if_neg h137) (Eq.trans (if_neg h140) (Eq.trans (if_pos h143) (Eq.trans (if_neg h144) (Eq.trans (bnd_of hr152) (if_neg h156))))))))))
  obtain rfl := e.symm.trans hr
  exact ⟨rfl, H158, (by omega)⟩
  refine Wp.cond1 rfl (decide_eq_true h143) (Wp.seq (Wp.region (As rfl rfl (WL.nil (Fin.then (Wp.ret (Fin.thenR (Fin.res (res1 rfl rfl) ?_))))))))
  have H159 := H23.pick [] (by decide) rfl
  have e : r04_CheckOp p0 = 40 := Eq.trans (if_neg h24) (Eq.trans (if_neg h53) (Eq.trans (if_neg h80) (Eq.trans (if_neg h108) (Eq.trans (if_pos h136) (Eq.trans (if_neg h137) (Eq.trans (if_neg h140) (if_neg h143)))))))
  obtain rfl := e.symm.trans hr
  exact ⟨rfl, H159, (by omega)⟩
  refine Sk rfl rfl (decide_eq_true h136) rfl (Sk rfl rfl (decide_eq_true h136) rfl (WL.skipU rfl rfl rfl (WL.skipU rfl rfl rfl (WL.skipU rfl rfl rfl (WL.skipU rfl rfl rfl (WL.skipU rfl rfl rfl (WL.skipU rfl rfl rfl (WL.skipU rfl rfl rfl (WL.skipU rfl rfl rfl (Sk rfl rfl (decide_eq_true h136) rfl (WL.val (v := .bool true) rfl (Yl.pickT rfl (decide_eq_true h136) rfl) (Mv rfl rfl (Sk rfl rfl rfl rfl (Sk rfl rfl rfl rfl (WL.skipU rfl rfl rfl (WL.skipU rfl rfl rfl (WL.skipU rfl rfl rfl (Sk rfl rfl rfl rfl (WL.val (v := .bool true) rfl (Yl.pickT rfl rfl rfl) (Mv rfl rfl (Sk rfl rfl rfl rfl (Sk rfl rfl rfl rfl (Sk rfl rfl rfl rfl (Sk rfl rfl rfl rfl (WL.skipU rfl rfl rfl (WL.skipU rfl rfl rfl (WL.skipU rfl rfl rfl (Sk rfl rfl rfl rfl (WL.val (v := .bool true) rfl (Yl.pickT rfl rfl rfl) (Mv rfl rfl (Sk rfl rfl rfl rfl (Sk rfl rfl rfl rfl (Sk rfl rfl rfl rfl (Sk rfl rfl rfl rfl (WL.skipU rfl rfl rfl (WL.skipU rfl rfl rfl (WL.skipU rfl rfl rfl (Sk rfl rfl rfl rfl (WL.val (v := .bool true) rfl (Yl.pickT rfl rfl rfl) ?_)))))))))))))))))))))))))))))))))))))))
  refine WL.nil (Fin.then (Wp.cond1 rfl rfl (Wp.seq (Wp.region (As rfl rfl (WL.nil (Fin.then (Wp.ret (Fin.thenR (Fin.res (res1 rfl rfl) ?_))))))))))
  have H160 := H23.pick [] (by decide) rfl
  have e : r04_CheckOp p0 = 40 := Eq.trans (if_neg h24) (Eq.trans (if_neg h53) (Eq.trans (if_neg h80) (Eq.trans (if_neg h108) (if_neg h136))))
  obtain rfl := e.symm.trans hr
  exact ⟨rfl, H160, (by omega)⟩

def r04_Writes (p0 : OpD) : Bool :=
  if p0.xKind = 2 then true else if p0.xKind = 3 then true else decide (p0.xKind = 5)

set_option maxRecDepth 100000 in
theorem r04_Writes_ok (w : World) (D : Nat → Prop) (p0 : OpD) (r0 : Bool) (H : Own w D w [])  (hr : r04_Writes p0 = r0) :
    Calls Tryz.prog 44 #[.agg (OpD.cells p0).toArray] w (Ret fun v w' => v = .bool r0 ∧ Own w D w' []) := by
  refine Calls.body (args := [.agg (OpD.cells p0).toArray]) Tryz.func44 rfl rfl rfl ?_
  show Wp _ _ _ [(0, .agg (OpD.cells p0).toArray)] _ _
  refine Wp.seq (Wp.region ?_)
  refine WL.do rfl (Do.newP (cs := (OpD.cells p0)) (t := 59) H rfl rfl (fun _ => by kernel_rfl) ?_)
  intro g21 w22 H23
  refine As rfl rfl (WL.nil (Fin.then (Wp.seq (Wp.region (Kn (v := .pointer (some ⟨g21, 0, none⟩)) rfl rfl rfl (fun _ => by kernel_rfl) (WL.val (v := .int .i64 p0.xKind) rfl (Yl.load rfl (Lds.one Tryz.isAgg3 (Cls.of (H23.cls (i := 0) rfl) rfl))) (Kn (v := .bool (decide (p0.xKind = 2))) rfl rfl rfl (fun _ => by kernel_rfl) (Mv rfl rfl ?_))))))))
  by_cases h24 : p0.xKind = 2
  refine Sk rfl rfl (decide_eq_true h24) rfl (Sk rfl rfl (decide_eq_true h24) rfl (Sk rfl rfl (decide_eq_true h24) rfl (WL.val (v := .bool true) rfl (Yl.pickT rfl (decide_eq_true h24) rfl) (Mv rfl rfl (Sk rfl rfl rfl rfl (Sk rfl rfl rfl rfl (Sk rfl rfl rfl rfl (WL.val (v := .bool true) rfl (Yl.pickT rfl rfl rfl) (As rfl rfl (WL.nil (Fin.then (Wp.ret (Fin.res (res1 rfl rfl) ?_)))))))))))))
  have H25 := H23.pick [] (by decide) rfl
  have e : r04_Writes p0 = true := if_pos h24
  obtain rfl := e.symm.trans hr
  exact ⟨rfl, H25⟩
  refine WL.valG (v := .pointer (some ⟨g21, 0, none⟩)) rfl rfl (decide_eq_false h24) rfl (Yl.kern rfl rfl (fun _ => by kernel_rfl)) (WL.valG (v := .int .i64 p0.xKind) rfl rfl (decide_eq_false h24) rfl (Yl.load rfl (Lds.one Tryz.isAgg3 (Cls.of (H23.cls (i := 0) rfl) rfl))) (WL.valG (v := .bool (decide (p0.xKind = 3))) rfl rfl (decide_eq_false h24) rfl (Yl.kern rfl rfl (fun _ => by kernel_rfl)) (WL.val (v := .bool (decide (p0.xKind = 3))) rfl (Yl.pickF rfl (decide_eq_false h24) rfl) (Mv rfl rfl ?_))))
  by_cases h26 : p0.xKind = 3
  refine Sk rfl rfl (decide_eq_true h26) rfl (Sk rfl rfl (decide_eq_true h26) rfl (Sk rfl rfl (decide_eq_true h26) rfl (WL.val (v := .bool true) rfl (Yl.pickT rfl (decide_eq_true h26) rfl) (As rfl rfl (WL.nil (Fin.then (Wp.ret (Fin.res (res1 rfl rfl) ?_))))))))
  have H27 := H23.pick [] (by decide) rfl
  have e : r04_Writes p0 = true := Eq.trans (if_neg h24) (if_pos h26)
  obtain rfl := e.symm.trans hr
  exact ⟨rfl, H27⟩
  refine WL.valG (v := .pointer (some ⟨g21, 0, none⟩)) rfl rfl (decide_eq_false h26) rfl (Yl.kern rfl rfl (fun _ => by kernel_rfl)) (WL.valG (v := .int .i64 p0.xKind) rfl rfl (decide_eq_false h26) rfl (Yl.load rfl (Lds.one Tryz.isAgg3 (Cls.of (H23.cls (i := 0) rfl) rfl))) (WL.valG (v := .bool (decide (p0.xKind = 5))) rfl rfl (decide_eq_false h26) rfl (Yl.kern rfl rfl (fun _ => by kernel_rfl)) (WL.val (v := .bool (decide (p0.xKind = 5))) rfl (Yl.pickF rfl (decide_eq_false h26) rfl) (As rfl rfl (WL.nil (Fin.then (Wp.ret (Fin.res (res1 rfl rfl) ?_))))))))
  have H28 := H23.pick [] (by decide) rfl
  have e : r04_Writes p0 = decide (p0.xKind = 5) := Eq.trans (if_neg h24) (if_neg h26)
  obtain rfl := e.symm.trans hr
  exact ⟨rfl, H28⟩

def r12_Check_L0 (l0 : List EntryD) : List EntryD → Nat → Unit ⊕ Int
  | [], k21 => Sum.inl ()
  | x30 :: q22, k21 => bnd (r04_CheckOp x30.xOp) fun yr43 => if yr43 = 0 then bnd (r04_Writes x30.xOp) fun yr55 => if yr55 = true then if ((k21 : Nat) : Int) > 0 then bnd (List.getD l0 (k21 - 1) default) fun yx64 => if ((yx64.xSeq : Nat) : Int) ≥ ((x30.xSeq : Nat) : Int) then Sum.inr (1) else r12_Check_L0 l0 q22 (k21 + 1) else r12_Check_L0 l0 q22 (k21 + 1) else Sum.inr (40) else Sum.inr (yr43)

def r12_Check (l0 : List EntryD) : Int :=
  lp (r12_Check_L0 l0 l0 0) fun _ => 0

set_option maxRecDepth 100000 in
theorem r12_Check_ok (w : World) (D : Nat → Prop) (A0 : Option Addr) (n0 c0 : Nat) (l0 : List EntryD) (r0 : Int) (H : Own w D w []) (hx0 : Ro w D fun w' => Rds w' 7 A0 n0 (List.flatMap EntryD.cells l0)) (hn0 : n0 = l0.length) (hl0 : l0.length ≤ 9223372036854775807) (hr : r12_Check l0 = r0) :
    Calls Tryz.prog 25 #[.slice A0 n0 c0] w (Ret fun v w' => v = .int .i64 r0 ∧ Own w D w' []) := by
  subst hn0
  refine Calls.body (args := [.slice A0 l0.length c0]) Tryz.func25 rfl rfl rfl ?_
  show Wp _ _ _ [(0, .slice A0 l0.length c0)] _ _
  refine Wp.seq (Wp.region (As rfl rfl (WL.nil (Fin.then (Wp.seq (Wp.seq (Wp.region (Mv rfl rfl (Kn (v := .int .i64 ((l0.length : Nat) : Int)) rfl rfl rfl (fun _ => by kernel_rfl) (Mv rfl rfl (WL.nil (Fin.then (Wp.block ?_)))))))))))))
  have H23 : Own w D w [] := H.pick [] (by decide) rfl
  refine Wp.loop (ι := Nat) (fun i => [(2, .int .i64 0), (8, .int .i64 ((i : Nat) : Int)), (7, .int .i64 ((l0.length : Nat) : Int)), (6, .slice A0 l0.length c0), (0, .slice A0 l0.length c0)]) (fun (i : Nat) w' => Own w D w' [] ∧ (i ≤ l0.length ∧ r12_Check_L0 l0 l0 0 = r12_Check_L0 l0 (List.drop i l0) i)) (fun i => l0.length - i) 0 ⟨rfl, rfl, rfl, rfl, rfl, trivial⟩ ⟨H23, (show 0 ≤ l0.length ∧ r12_Check_L0 l0 l0 0 = r12_Check_L0 l0 (List.drop 0 l0) 0 from ⟨by omega, rfl⟩)⟩ ?_
  rintro k21 w24 ⟨H25, hf26⟩
  show Wp _ _ _ [(2, .int .i64 0), (8, .int .i64 ((k21 : Nat) : Int)), (7, .int .i64 ((l0.length : Nat) : Int)), (6, .slice A0 l0.length c0), (0, .slice A0 l0.length c0)] _ _
  replace hf26 : k21 ≤ l0.length ∧ r12_Check_L0 l0 l0 0 = r12_Check_L0 l0 (List.drop k21 l0) k21 := hf26
  obtain ⟨hi28, hq27⟩ := hf26
  refine Wp.seq (Wp.region (Kn (v := .bool (decide (((k21 : Nat) : Int) < ((l0.length : Nat) : Int)))) rfl rfl rfl (fun _ => by kernel_rfl) (WL.nil (Fin.then (Wp.seq ?_)))))
  by_cases h29 : ((k21 : Nat) : Int) < ((l0.length : Nat) : Int)
  obtain ⟨x30, hx31⟩ := rds_at (ls := l0) (i := k21) EntryD.len (by decide) (H25.ro hx0) (by first | omega | (simp; done) | (simp; omega))
  have hd32 := drop_at hx31
  refine Wp.cond1 rfl (decide_eq_true h29) (Wp.skip (Fin.then (Wp.seq (Wp.block (Wp.seq (Wp.region (Mv rfl rfl (WL.val (v := .pointer (some ⟨ab A0, ao A0 + k21 * 7, none⟩)) rfl (Yl.indexAddr (El46) rfl rfl ((H25.ro hx0).addr (i := k21) (by omega)) (by omega)) (WL.val (v := .agg (EntryD.cells x30).toArray) rfl (Yl.load rfl (Lds.agg (cs := (EntryD.cells x30)) Tryz.isAgg61 Tryz.sizeOf61 ((H25.ro hx0).elem EntryD.len hx31 (by decide)))) ?_)))))))))
  refine WL.do rfl (Do.newP (cs := [.int .u64 0, .int .i64 0, .string ⟨List.toArray ([])⟩, .string ⟨List.toArray ([])⟩, .string ⟨List.toArray ([])⟩, .string ⟨List.toArray ([])⟩, .int .i64 0]) (t := 61) H25 rfl rfl (fun _ => by kernel_rfl) ?_)
  intro g33 w34 H35
  refine As rfl rfl ?_
  refine WL.do0 (Do.store (vs := (EntryD.cells x30)) (o := 0) H35 rfl rfl Tryz.sizeOf61 rfl rfl rfl rfl ?_)
  intro w36 H37
  refine WL.nil (Fin.then (Wp.seq (Wp.seq (Wp.region (Kn (v := .pointer (some ⟨g33, 1, none⟩)) rfl rfl rfl (fun _ => by kernel_rfl) (WL.val (v := .agg (OpD.cells x30.xOp).toArray) rfl (Yl.load rfl (Lds.agg (cs := (OpD.cells x30.xOp)) Tryz.isAgg59 Tryz.sizeOf59 ((H37.cls (i := 0) rfl).lit (k := 1) (m := 6) rfl))) ?_))))))
  obtain ⟨r43, hr44⟩ : ∃ q, r04_CheckOp x30.xOp = q := ⟨_, rfl⟩
  obtain ⟨D38, HP39, ro40, bk41, rr42⟩ := Own.enter0 H37
  refine WL.do rfl (Do.call Tryz.call43 rfl (r04_CheckOp_ok _ _ x30.xOp r43 HP39 hr44) ?_)
  rintro _ w45 ⟨rfl, HQ46, hk48⟩
  have H47 := bk41 _ _ HQ46
  replace hk48 : ¬ (r43 = 0) ∨ (1 ≤ x30.xOp.xKind ∧ x30.xOp.xKind ≤ 5) := hk48
  refine As rfl rfl (WL.nil (Fin.then (Wp.seq (Wp.region (Mv rfl rfl (WL.val (v := .bool (decide (¬ (r43 = 0)))) rfl (Yl.bool (e := !(decide (r43 = 0))) (Yl.kern rfl rfl (fun _ => by kernel_rfl)) decide_not.symm) (WL.nil (Fin.then ?_))))))))
  by_cases h49 : r43 = 0
  refine Wp.cond0 rfl (decide_eq_false (not_not_intro h49)) (Wp.skip (Fin.then (Wp.seq (Wp.seq (Wp.region (Kn (v := .pointer (some ⟨g33, 1, none⟩)) rfl rfl rfl (fun _ => by kernel_rfl) (WL.val (v := .agg (OpD.cells x30.xOp).toArray) rfl (Yl.load rfl (Lds.agg (cs := (OpD.cells x30.xOp)) Tryz.isAgg59 Tryz.sizeOf59 ((H47.cls (i := 0) rfl).lit (k := 1) (m := 6) rfl))) ?_)))))))
  obtain ⟨r55, hr56⟩ : ∃ q, r04_Writes x30.xOp = q := ⟨_, rfl⟩
  obtain ⟨D50, HP51, ro52, bk53, rr54⟩ := Own.enter0 H47
  refine WL.do rfl (Do.call Tryz.call44 rfl (r04_Writes_ok _ _ x30.xOp r55 HP51 hr56) ?_)
  rintro _ w57 ⟨rfl, HQ58⟩
  have H59 := bk53 _ _ HQ58
  refine Kn (v := .bool (!r55)) rfl rfl rfl (fun _ => by kernel_rfl) (WL.nil (Fin.then ?_))
  rcases Bool.eq_false_or_eq_true (r55) with h60 | h60
  refine Wp.cond0 rfl (congrArg not h60) (Wp.skip (Fin.then (Wp.seq ?_)))
  have H62 := H59.drew
  refine Wp.drawnX [] (fun W => ∃ L', Own w D W ([blk g33 (EntryD.cells x30) 61] ++ L')) (by kernel_rfl) (by kernel_rfl) (NoP.then (NoP.block (NoP.then (NoP.then (NoP.block (NoP.then NoP.base)))))) ⟨_, H62⟩ ?_
  revert H62
  generalize World.drew w57 = w61
  intro H62
  refine GX.take (v := .int .i64 ((k21 : Nat) : Int)) (rs := []) 0 rfl (by kernel_rfl) (fun _ _ => Yl.move rfl) (GX.take (v := .bool (decide (((k21 : Nat) : Int) > 0))) (rs := []) 1 rfl (by kernel_rfl) (fun _ _ => Yl.kern rfl rfl (fun _ => by kernel_rfl)) (GX.take (v := .bool (decide (((k21 : Nat) : Int) > 0))) (rs := []) 2 rfl (by kernel_rfl) (fun _ _ => Yl.move rfl) ?_))
  by_cases h63 : ((k21 : Nat) : Int) > 0
  refine GX.takeG (v := .slice A0 l0.length c0) (rs := []) 3 rfl rfl rfl (decide_eq_true h63) (by kernel_rfl) (fun _ _ => Yl.move rfl) (GX.takeG (v := .int .i64 ((k21 : Nat) : Int)) (rs := []) 4 rfl rfl rfl (decide_eq_true h63) (by kernel_rfl) (fun _ _ => Yl.move rfl) (GX.takeG (v := .int .i64 ((k21 - 1 : Nat) : Int)) (rs := []) 5 rfl rfl rfl (decide_eq_true h63) (by kernel_rfl) (fun _ _ => Yl.int (e := IntKind.i64.wrap (((k21 : Nat) : Int) - 1)) (Yl.kern rfl rfl (fun _ => by kernel_rfl)) (by rw [IntWalk.i64_in _ (by omega)]; omega)) ?_))
  obtain ⟨x64, hx65⟩ := at_of (ls := l0) (i := k21 - 1) (by first | omega | (simp; done) | (simp; omega))
  refine GX.takeG (v := .pointer (some ⟨ab A0, ao A0 + (k21 - 1) * 7, none⟩)) (rs := []) 6 rfl rfl rfl (decide_eq_true h63) (by kernel_rfl) (fun _ ⟨_, H9⟩ => Yl.indexAddr (El46) rfl rfl ((H9.ro hx0).addr (i := k21 - 1) (by omega)) (by omega)) (GX.takeG (v := .pointer (some ⟨ab A0, ao A0 + (k21 - 1) * 7, none⟩)) (rs := []) 7 rfl rfl rfl (decide_eq_true h63) (by kernel_rfl) (fun _ _ => Yl.kern rfl rfl (fun _ => by kernel_rfl)) (GX.takeG (v := .int .u64 ((x64.xSeq : Nat) : Int)) (rs := []) 8 rfl rfl rfl (decide_eq_true h63) (by kernel_rfl) (fun _ ⟨_, H9⟩ => Yl.load rfl (Lds.one Tryz.isAgg57 (((H9.ro hx0).elem EntryD.len hx65 (by decide)).at_ (k := 0) rfl))) (GX.takeG (v := .pointer (some ⟨g33, 0, none⟩)) (rs := []) 9 rfl rfl rfl (decide_eq_true h63) (by kernel_rfl) (fun _ _ => Yl.kern rfl rfl (fun _ => by kernel_rfl)) (GX.takeG (v := .int .u64 ((x30.xSeq : Nat) : Int)) (rs := []) 10 rfl rfl rfl (decide_eq_true h63) (by kernel_rfl) (fun _ ⟨_, H9⟩ => Yl.load rfl (Lds.one Tryz.isAgg57 (Cls.of (H9.cls (i := 0) rfl) rfl))) (GX.takeG (v := .bool (decide (((x64.xSeq : Nat) : Int) ≥ ((x30.xSeq : Nat) : Int)))) (rs := []) 11 rfl rfl rfl (decide_eq_true h63) (by kernel_rfl) (fun _ _ => Yl.kern rfl rfl (fun _ => by kernel_rfl)) (GX.take (v := .bool (decide (((x64.xSeq : Nat) : Int) ≥ ((x30.xSeq : Nat) : Int)))) (rs := []) 12 rfl (by kernel_rfl) (fun _ _ => Yl.pickT rfl (decide_eq_true h63) rfl) (GX.done (by kernel_rfl) (Fin.then ?_))))))))
  by_cases h66 : ((x64.xSeq : Nat) : Int) ≥ ((x30.xSeq : Nat) : Int)
  refine Wp.cond1 rfl (decide_eq_true h66) (Wp.seq (Wp.region (As rfl rfl (WL.nil (Fin.then (Wp.ret (Fin.blockR (Fin.thenR (Fin.thenR (Fin.blockR (Fin.thenR (Fin.res (res1 rfl rfl) ?_))))))))))))
  have H67 := H62.pick [] (by decide) rfl
  have e : r12_Check l0 = 1 := lp_r (Eq.trans (hq27) (Eq.trans (congrArg (fun q => r12_Check_L0 l0 q k21) hd32) (Eq.trans (bnd_of hr44) (Eq.trans (if_pos h49) (Eq.trans (bnd_of hr56) (Eq.trans (if_pos h60) (Eq.trans (if_pos h63) (Eq.trans (bnd_of (getD_of hx65)) (if_pos h66)))))))))
  obtain rfl := e.symm.trans hr
  exact ⟨rfl, H67⟩
  refine Wp.cond0 rfl (decide_eq_false h66) (Wp.skip (Fin.blockN (Fin.then (Wp.region (WL.val (v := .int .i64 ((k21 + 1 : Nat) : Int)) rfl (Yl.int (e := IntKind.i64.wrap (((k21 : Nat) : Int) + 1)) (Yl.kern rfl rfl (fun _ => by kernel_rfl)) (by rw [IntWalk.i64_in _ (by omega)]; omega)) (Mv rfl rfl (WL.nil ?_)))))))
  have H68 := H62.pick [] (by decide) rfl
  exact Fin.round (k21 + 1) ⟨rfl, rfl, rfl, rfl, rfl, trivial⟩ ⟨H68, (show (k21 + 1) ≤ l0.length ∧ r12_Check_L0 l0 l0 0 = r12_Check_L0 l0 (List.drop (k21 + 1) l0) (k21 + 1) from ⟨by omega, Eq.trans (hq27) (Eq.trans (congrArg (fun q => r12_Check_L0 l0 q k21) hd32) (Eq.trans (bnd_of hr44) (Eq.trans (if_pos h49) (Eq.trans (bnd_of hr56) (Eq.trans (if_pos h60) (Eq.trans (if_pos h63) (Eq.trans (bnd_of (getD_of hx65)) (if_neg h66))))))))⟩)⟩ (by show l0.length - (k21 + 1) < l0.length - k21; omega)
  refine GX.skipG (rs := []) 3 rfl rfl rfl (decide_eq_false h63) (by kernel_rfl) (GX.skipG (rs := []) 4 rfl rfl rfl (decide_eq_false h63) (by kernel_rfl) (GX.skipG (rs := []) 5 rfl rfl rfl (decide_eq_false h63) (by kernel_rfl) (GX.skipG (rs := []) 6 rfl rfl rfl (decide_eq_false h63) (by kernel_rfl) (GX.skipG (rs := []) 7 rfl rfl rfl (decide_eq_false h63) (by kernel_rfl) (GX.skipG (rs := []) 8 rfl rfl rfl (decide_eq_false h63) (by kernel_rfl) (GX.skipG (rs := []) 9 rfl rfl rfl (decide_eq_false h63) (by kernel_rfl) (GX.skipG (rs := []) 10 rfl rfl rfl (decide_eq_false h63) (by kernel_rfl) (GX.skipG (rs := []) 11 rfl rfl rfl (decide_eq_false h63) (by kernel_rfl) (GX.take (v := .bool false) (rs := []) 12 rfl (by kernel_rfl) (fun _ _ => Yl.pickF rfl (decide_eq_false h63) rfl) (GX.done (by kernel_rfl) (Fin.then (Wp.cond0 rfl rfl (Wp.skip (Fin.blockN (Fin.then (Wp.region (WL.val (v := .int .i64 ((k21 + 1 : Nat) : Int)) rfl (Yl.int (e := IntKind.i64.wrap (((k21 : Nat) : Int) + 1)) (Yl.kern rfl rfl (fun _ => by kernel_rfl)) (by rw [IntWalk.i64_in _ (by omega)]; omega)) (Mv rfl rfl (WL.nil ?_)))))))))))))))))))
  have H69 := H62.pick [] (by decide) rfl
  exact Fin.round (k21 + 1) ⟨rfl, rfl, rfl, rfl, rfl, trivial⟩ ⟨H69, (show (k21 + 1) ≤ l0.length ∧ r12_Check_L0 l0 l0 0 = r12_Check_L0 l0 (List.drop (k21 + 1) l0) (k21 + 1) from ⟨by omega, Eq.trans (hq27) (Eq.trans (congrArg (fun q => r12_Check_L0 l0 q k21) hd32) (Eq.trans (bnd_of hr44) (Eq.trans (if_pos h49) (Eq.trans (bnd_of hr56) (Eq.trans (if_pos h60) (if_neg h63))))))⟩)⟩ (by show l0.length - (k21 + 1) < l0.length - k21; omega)
  refine Wp.cond1 rfl (congrArg not h60) (Wp.seq (Wp.region (As rfl rfl (WL.nil (Fin.then (Wp.ret (Fin.thenR (Fin.blockR (Fin.thenR (Fin.thenR (Fin.blockR (Fin.thenR (Fin.res (res1 rfl rfl) ?_)))))))))))))
  have H70 := H59.pick [] (by decide) rfl
  have e : r12_Check l0 = 40 := lp_r (Eq.trans (hq27) (Eq.trans (congrArg (fun q => r12_Check_L0 l0 q k21) hd32) (Eq.trans (bnd_of hr44) (Eq.trans (if_pos h49) (Eq.trans (bnd_of hr56) (ifF h60))))))
  obtain rfl := e.symm.trans hr
  exact ⟨rfl, H70⟩
  refine Wp.cond1 rfl (decide_eq_true h49) (Wp.seq (Wp.region (Mv rfl rfl (As rfl rfl (WL.nil (Fin.then (Wp.ret (Fin.thenR (Fin.blockR (Fin.thenR (Fin.thenR (Fin.blockR (Fin.thenR (Fin.res (res1 rfl rfl) ?_))))))))))))))
  have H71 := H47.pick [] (by decide) rfl
  have e : r12_Check l0 = r43 := lp_r (Eq.trans (hq27) (Eq.trans (congrArg (fun q => r12_Check_L0 l0 q k21) hd32) (Eq.trans (bnd_of hr44) (if_neg h49))))
  obtain rfl := e.symm.trans hr
  exact ⟨rfl, H71⟩
  refine Wp.cond0 rfl (decide_eq_false h29) (Wp.exit (Fin.thenX ?_))
  have hL72 : r12_Check_L0 l0 l0 0 = Sum.inl () := Eq.trans (hq27) (Eq.trans (congrArg (fun q => r12_Check_L0 l0 q k21) (drop_end (ls := l0) (i := k21) (by omega))) rfl)
  refine Fin.thenX (Fin.blockX (Fin.then (Wp.seq (Wp.region (As rfl rfl (WL.nil (Fin.then (Wp.ret (Fin.res (res1 rfl rfl) ?_)))))))))
  have H73 := H25.pick [] (by decide) rfl
  have e : r12_Check l0 = 0 := lp_l hL72
  obtain rfl := e.symm.trans hr
  exact ⟨rfl, H73⟩

def r12_Range (l0 : List (List UInt8)) (p1 : Int) : RangeD :=
  bnd (if p1 > 0 then bnd (List.getD l0 (Int.toNat (p1 - 1)) default) fun yx31 => yx31 else []) fun sJrJ => if p1 < ((l0.length : Nat) : Int) then bnd (List.getD l0 (Int.toNat p1) default) fun yx42 => RangeD.mk sJrJ yx42 else RangeD.mk sJrJ ([])

set_option maxRecDepth 100000 in
theorem r12_Range_ok (w : World) (D : Nat → Prop) (A0 : Option Addr) (n0 c0 : Nat) (l0 : List (List UInt8)) (p1 : Int) (r0 : RangeD) (H : Own w D w []) (hx0 : Ro w D fun w' => Rds w' 1 A0 n0 (List.flatMap eS l0)) (hn0 : n0 = l0.length) (hl0 : l0.length * 16 ≤ 211106232532992) (hh0 : 0 ≤ p1 ∧ p1 ≤ ((l0.length : Nat) : Int)) (hr : r12_Range l0 p1 = r0) :
    Calls Tryz.prog 26 #[.slice A0 n0 c0, .int .i64 p1] w (Ret fun v w' => v = .agg (RangeD.cells r0).toArray ∧ Own w D w' []) := by
  subst hn0
  refine Calls.body (args := [.slice A0 l0.length c0, .int .i64 p1]) Tryz.func26 rfl rfl rfl ?_
  show Wp _ _ _ [(0, .slice A0 l0.length c0), (1, .int .i64 p1)] _ _
  refine Wp.seq (Wp.region ?_)
  refine WL.do rfl (Do.newP (cs := [.string ⟨List.toArray ([])⟩, .string ⟨List.toArray ([])⟩]) (t := 55) H rfl rfl (fun _ => by kernel_rfl) ?_)
  intro g21 w22 H23
  refine WL.nil (Fin.then (Wp.seq (Wp.region (Kn (v := .agg #[.string ⟨List.toArray ([])⟩, .string ⟨List.toArray ([])⟩]) rfl rfl rfl (fun _ => by kernel_rfl) ?_))))
  refine WL.do rfl (Do.newP (cs := [.string ⟨List.toArray ([])⟩, .string ⟨List.toArray ([])⟩]) (t := 55) H23 rfl rfl (fun _ => by kernel_rfl) ?_)
  intro g24 w25 H26
  refine WL.do0 (Do.store (vs := [.string ⟨List.toArray ([])⟩, .string ⟨List.toArray ([])⟩]) (o := 0) H26 rfl rfl Tryz.sizeOf55 rfl rfl rfl rfl ?_)
  intro w27 H28
  refine WL.nil (Fin.then (Wp.seq (Wp.seq (Wp.region (Mv rfl rfl (Kn (v := .bool (decide (p1 > 0))) rfl rfl rfl (fun _ => by kernel_rfl) (WL.nil (Fin.then ?_))))))))
  refine Wp.joinT (ι := (List UInt8)) (fun i => [(5, .pointer (some ⟨g24, 0, none⟩)), (4, .pointer (some ⟨g21, 0, none⟩)), (0, .slice A0 l0.length c0), (1, .int .i64 p1)]) (fun (i : (List UInt8)) w' => Own w D w' [blk g24 [.string ⟨List.toArray i⟩, .string ⟨List.toArray ([])⟩] 55, blk g21 [.string ⟨List.toArray ([])⟩, .string ⟨List.toArray ([])⟩] 55] ∧ ((if p1 > 0 then bnd (List.getD l0 (Int.toNat (p1 - 1)) default) fun yx31 => yx31 else []) = i)) ?_ ?_
  by_cases h30 : p1 > 0
  refine Wp.cond1 rfl (decide_eq_true h30) (Wp.region (Mv rfl rfl (Mv rfl rfl (WL.val (v := .int .i64 ((Int.toNat (p1 - 1) : Nat) : Int)) rfl (Yl.int (e := IntKind.i64.wrap (p1 - 1)) (Yl.kern rfl rfl (fun _ => by kernel_rfl)) (by rw [IntWalk.i64_in _ (by omega)]; omega)) ?_))))
  obtain ⟨x31, hx32⟩ := rds_at (ls := l0) (i := Int.toNat (p1 - 1)) eS_len (by decide) (H28.ro hx0) (by first | omega | (simp; done) | (simp; omega))
  refine WL.val (v := .pointer (some ⟨ab A0, ao A0 + (Int.toNat (p1 - 1)) * 1, none⟩)) rfl (Yl.indexAddr (El24) rfl rfl ((H28.ro hx0).addr (i := Int.toNat (p1 - 1)) (by omega)) (by omega)) (WL.val (v := .string ⟨List.toArray x31⟩) rfl (Yl.load rfl (Lds.one Tryz.isAgg9 (((H28.ro hx0).elem eS_len hx32 (by decide)).at_ (k := 0) rfl))) (Kn (v := .pointer (some ⟨g24, 0, none⟩)) rfl rfl rfl (fun _ => by kernel_rfl) ?_))
  refine WL.do0 (Do.store (vs := [.string ⟨List.toArray x31⟩]) (o := 0) H28 rfl rfl Tryz.sizeOf9 rfl rfl rfl rfl ?_)
  intro w33 H34
  refine WL.nil ?_
  have H35 := H34.pick [0, 1] (by decide) rfl
  exact Fin.join x31 ⟨rfl, rfl, rfl, rfl, trivial⟩ ⟨H35, (show (if p1 > 0 then bnd (List.getD l0 (Int.toNat (p1 - 1)) default) fun yx31 => yx31 else []) = x31 from Eq.trans (if_pos h30) (bnd_of (getD_of hx32)))⟩
  refine Wp.cond0 rfl (decide_eq_false h30) (Wp.skip ?_)
  have H36 := H28.pick [0, 1] (by decide) rfl
  exact Fin.join ([]) ⟨rfl, rfl, rfl, rfl, trivial⟩ ⟨H36, (show (if p1 > 0 then bnd (List.getD l0 (Int.toNat (p1 - 1)) default) fun yx31 => yx31 else []) = ([]) from if_neg h30)⟩
  rintro s29 w37 ⟨H38, hf39⟩
  show Wp _ _ _ [(5, .pointer (some ⟨g24, 0, none⟩)), (4, .pointer (some ⟨g21, 0, none⟩)), (0, .slice A0 l0.length c0), (1, .int .i64 p1)] _ _
  replace hf39 : (if p1 > 0 then bnd (List.getD l0 (Int.toNat (p1 - 1)) default) fun yx31 => yx31 else []) = s29 := hf39
  have hj40 := hf39
  refine Wp.seq (Wp.seq (Wp.region (Mv rfl rfl (Mv rfl rfl (Kn (v := .int .i64 ((l0.length : Nat) : Int)) rfl rfl rfl (fun _ => by kernel_rfl) (Kn (v := .bool (decide (p1 < ((l0.length : Nat) : Int)))) rfl rfl rfl (fun _ => by kernel_rfl) (WL.nil (Fin.then ?_))))))))
  by_cases h41 : p1 < ((l0.length : Nat) : Int)
  refine Wp.cond1 rfl (decide_eq_true h41) (Wp.region (Mv rfl rfl (WL.val (v := .int .i64 ((Int.toNat p1 : Nat) : Int)) rfl (Yl.int (e := p1) (Yl.move rfl) (by omega)) ?_)))
  obtain ⟨x42, hx43⟩ := rds_at (ls := l0) (i := Int.toNat p1) eS_len (by decide) (H38.ro hx0) (by first | omega | (simp; done) | (simp; omega))
  refine WL.val (v := .pointer (some ⟨ab A0, ao A0 + (Int.toNat p1) * 1, none⟩)) rfl (Yl.indexAddr (El24) rfl rfl ((H38.ro hx0).addr (i := Int.toNat p1) (by omega)) (by omega)) (WL.val (v := .string ⟨List.toArray x42⟩) rfl (Yl.load rfl (Lds.one Tryz.isAgg9 (((H38.ro hx0).elem eS_len hx43 (by decide)).at_ (k := 0) rfl))) (Kn (v := .pointer (some ⟨g24, 1, none⟩)) rfl rfl rfl (fun _ => by kernel_rfl) ?_))
  refine WL.do0 (Do.store (vs := [.string ⟨List.toArray x42⟩]) (o := 1) H38 rfl rfl Tryz.sizeOf9 rfl rfl rfl rfl ?_)
  intro w44 H45
  refine WL.nil (Fin.then (Wp.seq (Wp.region (WL.val (v := .agg #[.string ⟨List.toArray s29⟩, .string ⟨List.toArray x42⟩]) rfl (Yl.load rfl (Lds.agg (cs := [.string ⟨List.toArray s29⟩, .string ⟨List.toArray x42⟩]) Tryz.isAgg55 Tryz.sizeOf55 ((H45.cls (i := 0) rfl).lit (k := 0) (m := 2) rfl))) ?_))))
  have H46 := H45.pick [1, 0] (by decide) rfl
  refine WL.do0 (Do.store (vs := [.string ⟨List.toArray s29⟩, .string ⟨List.toArray x42⟩]) (o := 0) H46 rfl rfl Tryz.sizeOf55 rfl rfl rfl rfl ?_)
  intro w47 H48
  refine WL.nil (Fin.then (Wp.ret (Fin.res (resC rfl rfl (Lds.agg (cs := [.string ⟨List.toArray s29⟩, .string ⟨List.toArray x42⟩]) Tryz.isAgg55 Tryz.sizeOf55 ((H48.cls (i := 0) rfl).lit (k := 0) (m := 2) rfl))) ?_)))
  have H49 := H48.pick [] (by decide) rfl
  have e : r12_Range l0 p1 = RangeD.mk s29 x42 := Eq.trans (bnd_of hj40) (Eq.trans (if_pos h41) (bnd_of (getD_of hx43)))
  obtain rfl := e.symm.trans hr
  exact ⟨rfl, H49⟩
  refine Wp.cond0 rfl (decide_eq_false h41) (Wp.skip (Fin.then (Wp.seq (Wp.region (WL.val (v := .agg #[.string ⟨List.toArray s29⟩, .string ⟨List.toArray ([])⟩]) rfl (Yl.load rfl (Lds.agg (cs := [.string ⟨List.toArray s29⟩, .string ⟨List.toArray ([])⟩]) Tryz.isAgg55 Tryz.sizeOf55 ((H38.cls (i := 0) rfl).lit (k := 0) (m := 2) rfl))) ?_)))))
  have H50 := H38.pick [1, 0] (by decide) rfl
  refine WL.do0 (Do.store (vs := [.string ⟨List.toArray s29⟩, .string ⟨List.toArray ([])⟩]) (o := 0) H50 rfl rfl Tryz.sizeOf55 rfl rfl rfl rfl ?_)
  intro w51 H52
  refine WL.nil (Fin.then (Wp.ret (Fin.res (resC rfl rfl (Lds.agg (cs := [.string ⟨List.toArray s29⟩, .string ⟨List.toArray ([])⟩]) Tryz.isAgg55 Tryz.sizeOf55 ((H52.cls (i := 0) rfl).lit (k := 0) (m := 2) rfl))) ?_)))
  have H53 := H52.pick [] (by decide) rfl
  have e : r12_Range l0 p1 = RangeD.mk s29 ([]) := Eq.trans (bnd_of hj40) (if_neg h41)
  obtain rfl := e.symm.trans hr
  exact ⟨rfl, H53⟩

def r04_CheckMap_L0 (l0 : List PairD) : List PairD → Nat → Unit ⊕ Int
  | [], k21 => Sum.inl ()
  | x30 :: q22, k21 => bnd (r02_CheckKey x30.xKey) fun yr43 => if yr43 = 0 then if ((x30.xValue.length : Nat) : Int) > 16 then Sum.inr (2) else if ((k21 : Nat) : Int) > 0 then bnd (List.getD l0 (k21 - 1) default) fun yx55 => if x30.xKey ≤ yx55.xKey then Sum.inr (1) else r04_CheckMap_L0 l0 q22 (k21 + 1) else r04_CheckMap_L0 l0 q22 (k21 + 1) else Sum.inr (20)

def r04_CheckMap (l0 : List PairD) : Int :=
  lp (r04_CheckMap_L0 l0 l0 0) fun _ => 0

set_option maxRecDepth 100000 in
theorem r04_CheckMap_ok (w : World) (D : Nat → Prop) (A0 : Option Addr) (n0 c0 : Nat) (l0 : List PairD) (r0 : Int) (H : Own w D w []) (hx0 : Ro w D fun w' => Rds w' 2 A0 n0 (List.flatMap PairD.cells l0)) (hn0 : n0 = l0.length) (hl0 : l0.length ≤ 9223372036854775807) (hr : r04_CheckMap l0 = r0) :
    Calls Tryz.prog 23 #[.slice A0 n0 c0] w (Ret fun v w' => v = .int .i64 r0 ∧ Own w D w' []) := by
  subst hn0
  refine Calls.body (args := [.slice A0 l0.length c0]) Tryz.func23 rfl rfl rfl ?_
  show Wp _ _ _ [(0, .slice A0 l0.length c0)] _ _
  refine Wp.seq (Wp.region (As rfl rfl (WL.nil (Fin.then (Wp.seq (Wp.seq (Wp.region (Mv rfl rfl (Kn (v := .int .i64 ((l0.length : Nat) : Int)) rfl rfl rfl (fun _ => by kernel_rfl) (Mv rfl rfl (WL.nil (Fin.then (Wp.block ?_)))))))))))))
  have H23 : Own w D w [] := H.pick [] (by decide) rfl
  refine Wp.loop (ι := Nat) (fun i => [(2, .int .i64 0), (7, .int .i64 ((i : Nat) : Int)), (6, .int .i64 ((l0.length : Nat) : Int)), (5, .slice A0 l0.length c0), (0, .slice A0 l0.length c0)]) (fun (i : Nat) w' => Own w D w' [] ∧ (i ≤ l0.length ∧ r04_CheckMap_L0 l0 l0 0 = r04_CheckMap_L0 l0 (List.drop i l0) i)) (fun i => l0.length - i) 0 ⟨rfl, rfl, rfl, rfl, rfl, trivial⟩ ⟨H23, (show 0 ≤ l0.length ∧ r04_CheckMap_L0 l0 l0 0 = r04_CheckMap_L0 l0 (List.drop 0 l0) 0 from ⟨by omega, rfl⟩)⟩ ?_
  rintro k21 w24 ⟨H25, hf26⟩
  show Wp _ _ _ [(2, .int .i64 0), (7, .int .i64 ((k21 : Nat) : Int)), (6, .int .i64 ((l0.length : Nat) : Int)), (5, .slice A0 l0.length c0), (0, .slice A0 l0.length c0)] _ _
  replace hf26 : k21 ≤ l0.length ∧ r04_CheckMap_L0 l0 l0 0 = r04_CheckMap_L0 l0 (List.drop k21 l0) k21 := hf26
  obtain ⟨hi28, hq27⟩ := hf26
  refine Wp.seq (Wp.region (Kn (v := .bool (decide (((k21 : Nat) : Int) < ((l0.length : Nat) : Int)))) rfl rfl rfl (fun _ => by kernel_rfl) (WL.nil (Fin.then (Wp.seq ?_)))))
  by_cases h29 : ((k21 : Nat) : Int) < ((l0.length : Nat) : Int)
  obtain ⟨x30, hx31⟩ := rds_at (ls := l0) (i := k21) PairD.len (by decide) (H25.ro hx0) (by first | omega | (simp; done) | (simp; omega))
  have hd32 := drop_at hx31
  refine Wp.cond1 rfl (decide_eq_true h29) (Wp.skip (Fin.then (Wp.seq (Wp.block (Wp.seq (Wp.region (Mv rfl rfl (WL.val (v := .pointer (some ⟨ab A0, ao A0 + k21 * 2, none⟩)) rfl (Yl.indexAddr (El22) rfl rfl ((H25.ro hx0).addr (i := k21) (by omega)) (by omega)) (WL.val (v := .agg (PairD.cells x30).toArray) rfl (Yl.load rfl (Lds.agg (cs := (PairD.cells x30)) Tryz.isAgg44 Tryz.sizeOf44 ((H25.ro hx0).elem PairD.len hx31 (by decide)))) ?_)))))))))
  refine WL.do rfl (Do.newP (cs := [.string ⟨List.toArray ([])⟩, .string ⟨List.toArray ([])⟩]) (t := 44) H25 rfl rfl (fun _ => by kernel_rfl) ?_)
  intro g33 w34 H35
  refine As rfl rfl ?_
  refine WL.do0 (Do.store (vs := (PairD.cells x30)) (o := 0) H35 rfl rfl Tryz.sizeOf44 rfl rfl rfl rfl ?_)
  intro w36 H37
  refine WL.nil (Fin.then (Wp.seq (Wp.seq (Wp.region (Kn (v := .pointer (some ⟨g33, 0, none⟩)) rfl rfl rfl (fun _ => by kernel_rfl) (WL.val (v := .string ⟨List.toArray x30.xKey⟩) rfl (Yl.load rfl (Lds.one Tryz.isAgg9 (Cls.of (H37.cls (i := 0) rfl) rfl))) ?_))))))
  obtain ⟨r43, hr44⟩ : ∃ q, r02_CheckKey x30.xKey = q := ⟨_, rfl⟩
  obtain ⟨D38, HP39, ro40, bk41, rr42⟩ := Own.enter0 H37
  refine WL.do rfl (Do.call Tryz.call42 rfl (r02_CheckKey_ok _ _ x30.xKey r43 HP39 hr44) ?_)
  rintro _ w45 ⟨rfl, HQ46, hk48⟩
  have H47 := bk41 _ _ HQ46
  replace hk48 : ¬ (r43 = 0) ∨ (1 ≤ x30.xKey.length ∧ x30.xKey.length ≤ 12) := hk48
  refine WL.val (v := .bool (decide (¬ (r43 = 0)))) rfl (Yl.bool (e := !(decide (r43 = 0))) (Yl.kern rfl rfl (fun _ => by kernel_rfl)) decide_not.symm) (WL.nil (Fin.then ?_))
  by_cases h49 : r43 = 0
  refine Wp.cond0 rfl (decide_eq_false (not_not_intro h49)) (Wp.skip (Fin.then (Wp.seq (Wp.seq (Wp.region (Kn (v := .pointer (some ⟨g33, 1, none⟩)) rfl rfl rfl (fun _ => by kernel_rfl) (WL.val (v := .string ⟨List.toArray x30.xValue⟩) rfl (Yl.load rfl (Lds.one Tryz.isAgg9 (Cls.of (H47.cls (i := 0) rfl) rfl))) (Kn (v := .int .i64 ((x30.xValue.length : Nat) : Int)) rfl rfl rfl (fun _ => by kernel_rfl) (Kn (v := .bool (decide (((x30.xValue.length : Nat) : Int) > 16))) rfl rfl rfl (fun _ => by kernel_rfl) (WL.nil (Fin.then ?_)))))))))))
  by_cases h50 : ((x30.xValue.length : Nat) : Int) > 16
  refine Wp.cond1 rfl (decide_eq_true h50) (Wp.seq (Wp.region (As rfl rfl (WL.nil (Fin.then (Wp.ret (Fin.thenR (Fin.blockR (Fin.thenR (Fin.thenR (Fin.blockR (Fin.thenR (Fin.res (res1 rfl rfl) ?_)))))))))))))
  have H51 := H47.pick [] (by decide) rfl
  have e : r04_CheckMap l0 = 2 := lp_r (Eq.trans (hq27) (Eq.trans (congrArg (fun q => r04_CheckMap_L0 l0 q k21) hd32) (Eq.trans (bnd_of hr44) (Eq.trans (if_pos h49) (if_pos h50)))))
  obtain rfl := e.symm.trans hr
  exact ⟨rfl, H51⟩
  refine Wp.cond0 rfl (decide_eq_false h50) (Wp.skip (Fin.then (Wp.seq ?_)))
  have H53 := H47.drew
  refine Wp.drawnX [] (fun W => ∃ L', Own w D W ([blk g33 (PairD.cells x30) 44] ++ L')) (by kernel_rfl) (by kernel_rfl) (NoP.then (NoP.block (NoP.then (NoP.then (NoP.block (NoP.then NoP.base)))))) ⟨_, H53⟩ ?_
  revert H53
  generalize World.drew w45 = w52
  intro H53
  refine GX.take (v := .int .i64 ((k21 : Nat) : Int)) (rs := []) 0 rfl (by kernel_rfl) (fun _ _ => Yl.move rfl) (GX.take (v := .bool (decide (((k21 : Nat) : Int) > 0))) (rs := []) 1 rfl (by kernel_rfl) (fun _ _ => Yl.kern rfl rfl (fun _ => by kernel_rfl)) (GX.take (v := .bool (decide (((k21 : Nat) : Int) > 0))) (rs := []) 2 rfl (by kernel_rfl) (fun _ _ => Yl.move rfl) ?_))
  by_cases h54 : ((k21 : Nat) : Int) > 0
  refine GX.takeG (v := .slice A0 l0.length c0) (rs := []) 3 rfl rfl rfl (decide_eq_true h54) (by kernel_rfl) (fun _ _ => Yl.move rfl) (GX.takeG (v := .int .i64 ((k21 : Nat) : Int)) (rs := []) 4 rfl rfl rfl (decide_eq_true h54) (by kernel_rfl) (fun _ _ => Yl.move rfl) (GX.takeG (v := .int .i64 ((k21 - 1 : Nat) : Int)) (rs := []) 5 rfl rfl rfl (decide_eq_true h54) (by kernel_rfl) (fun _ _ => Yl.int (e := IntKind.i64.wrap (((k21 : Nat) : Int) - 1)) (Yl.kern rfl rfl (fun _ => by kernel_rfl)) (by rw [IntWalk.i64_in _ (by omega)]; omega)) ?_))
  obtain ⟨x55, hx56⟩ := at_of (ls := l0) (i := k21 - 1) (by first | omega | (simp; done) | (simp; omega))
  refine GX.takeG (v := .pointer (some ⟨ab A0, ao A0 + (k21 - 1) * 2, none⟩)) (rs := []) 6 rfl rfl rfl (decide_eq_true h54) (by kernel_rfl) (fun _ ⟨_, H9⟩ => Yl.indexAddr (El22) rfl rfl ((H9.ro hx0).addr (i := k21 - 1) (by omega)) (by omega)) (GX.takeG (v := .pointer (some ⟨ab A0, ao A0 + (k21 - 1) * 2, none⟩)) (rs := []) 7 rfl rfl rfl (decide_eq_true h54) (by kernel_rfl) (fun _ _ => Yl.kern rfl rfl (fun _ => by kernel_rfl)) (GX.takeG (v := .string ⟨List.toArray x55.xKey⟩) (rs := []) 8 rfl rfl rfl (decide_eq_true h54) (by kernel_rfl) (fun _ ⟨_, H9⟩ => Yl.load rfl (Lds.one Tryz.isAgg9 (((H9.ro hx0).elem PairD.len hx56 (by decide)).at_ (k := 0) rfl))) (GX.takeG (v := .pointer (some ⟨g33, 0, none⟩)) (rs := []) 9 rfl rfl rfl (decide_eq_true h54) (by kernel_rfl) (fun _ _ => Yl.kern rfl rfl (fun _ => by kernel_rfl)) (GX.takeG (v := .string ⟨List.toArray x30.xKey⟩) (rs := []) 10 rfl rfl rfl (decide_eq_true h54) (by kernel_rfl) (fun _ ⟨_, H9⟩ => Yl.load rfl (Lds.one Tryz.isAgg9 (Cls.of (H9.cls (i := 0) rfl) rfl))) (GX.takeG (v := .bool (decide (x30.xKey ≤ x55.xKey))) (rs := []) 11 rfl rfl rfl (decide_eq_true h54) (by kernel_rfl) (fun _ _ => Yl.bool (e := !(Op.bytesLess x55.xKey x30.xKey)) (Yl.strGe rfl rfl) (bl_ge _ _)) (GX.take (v := .bool (decide (x30.xKey ≤ x55.xKey))) (rs := []) 12 rfl (by kernel_rfl) (fun _ _ => Yl.pickT rfl (decide_eq_true h54) rfl) (GX.done (by kernel_rfl) (Fin.then ?_))))))))
  by_cases h57 : x30.xKey ≤ x55.xKey
  refine Wp.cond1 rfl (decide_eq_true h57) (Wp.seq (Wp.region (As rfl rfl (WL.nil (Fin.then (Wp.ret (Fin.blockR (Fin.thenR (Fin.thenR (Fin.blockR (Fin.thenR (Fin.res (res1 rfl rfl) ?_))))))))))))
  have H58 := H53.pick [] (by decide) rfl
  have e : r04_CheckMap l0 = 1 := lp_r (Eq.trans (hq27) (Eq.trans (congrArg (fun q => r04_CheckMap_L0 l0 q k21) hd32) (Eq.trans (bnd_of hr44) (Eq.trans (if_pos h49) (Eq.trans (if_neg h50) (Eq.trans (if_pos h54) (Eq.trans (bnd_of (getD_of hx56)) (if_pos h57))))))))
  obtain rfl := e.symm.trans hr
  exact ⟨rfl, H58⟩
  refine Wp.cond0 rfl (decide_eq_false h57) (Wp.skip (Fin.blockN (Fin.then (Wp.region (WL.val (v := .int .i64 ((k21 + 1 : Nat) : Int)) rfl (Yl.int (e := IntKind.i64.wrap (((k21 : Nat) : Int) + 1)) (Yl.kern rfl rfl (fun _ => by kernel_rfl)) (by rw [IntWalk.i64_in _ (by omega)]; omega)) (Mv rfl rfl (WL.nil ?_)))))))
  have H59 := H53.pick [] (by decide) rfl
  exact Fin.round (k21 + 1) ⟨rfl, rfl, rfl, rfl, rfl, trivial⟩ ⟨H59, (show (k21 + 1) ≤ l0.length ∧ r04_CheckMap_L0 l0 l0 0 = r04_CheckMap_L0 l0 (List.drop (k21 + 1) l0) (k21 + 1) from ⟨by omega, Eq.trans (hq27) (Eq.trans (congrArg (fun q => r04_CheckMap_L0 l0 q k21) hd32) (Eq.trans (bnd_of hr44) (Eq.trans (if_pos h49) (Eq.trans (if_neg h50) (Eq.trans (if_pos h54) (Eq.trans (bnd_of (getD_of hx56)) (if_neg h57)))))))⟩)⟩ (by show l0.length - (k21 + 1) < l0.length - k21; omega)
  refine GX.skipG (rs := []) 3 rfl rfl rfl (decide_eq_false h54) (by kernel_rfl) (GX.skipG (rs := []) 4 rfl rfl rfl (decide_eq_false h54) (by kernel_rfl) (GX.skipG (rs := []) 5 rfl rfl rfl (decide_eq_false h54) (by kernel_rfl) (GX.skipG (rs := []) 6 rfl rfl rfl (decide_eq_false h54) (by kernel_rfl) (GX.skipG (rs := []) 7 rfl rfl rfl (decide_eq_false h54) (by kernel_rfl) (GX.skipG (rs := []) 8 rfl rfl rfl (decide_eq_false h54) (by kernel_rfl) (GX.skipG (rs := []) 9 rfl rfl rfl (decide_eq_false h54) (by kernel_rfl) (GX.skipG (rs := []) 10 rfl rfl rfl (decide_eq_false h54) (by kernel_rfl) (GX.skipG (rs := []) 11 rfl rfl rfl (decide_eq_false h54) (by kernel_rfl) (GX.take (v := .bool false) (rs := []) 12 rfl (by kernel_rfl) (fun _ _ => Yl.pickF rfl (decide_eq_false h54) rfl) (GX.done (by kernel_rfl) (Fin.then (Wp.cond0 rfl rfl (Wp.skip (Fin.blockN (Fin.then (Wp.region (WL.val (v := .int .i64 ((k21 + 1 : Nat) : Int)) rfl (Yl.int (e := IntKind.i64.wrap (((k21 : Nat) : Int) + 1)) (Yl.kern rfl rfl (fun _ => by kernel_rfl)) (by rw [IntWalk.i64_in _ (by omega)]; omega)) (Mv rfl rfl (WL.nil ?_)))))))))))))))))))
  have H60 := H53.pick [] (by decide) rfl
  exact Fin.round (k21 + 1) ⟨rfl, rfl, rfl, rfl, rfl, trivial⟩ ⟨H60, (show (k21 + 1) ≤ l0.length ∧ r04_CheckMap_L0 l0 l0 0 = r04_CheckMap_L0 l0 (List.drop (k21 + 1) l0) (k21 + 1) from ⟨by omega, Eq.trans (hq27) (Eq.trans (congrArg (fun q => r04_CheckMap_L0 l0 q k21) hd32) (Eq.trans (bnd_of hr44) (Eq.trans (if_pos h49) (Eq.trans (if_neg h50) (if_neg h54)))))⟩)⟩ (by show l0.length - (k21 + 1) < l0.length - k21; omega)
  refine Wp.cond1 rfl (decide_eq_true h49) (Wp.seq (Wp.region (As rfl rfl (WL.nil (Fin.then (Wp.ret (Fin.thenR (Fin.blockR (Fin.thenR (Fin.thenR (Fin.blockR (Fin.thenR (Fin.res (res1 rfl rfl) ?_)))))))))))))
  have H61 := H47.pick [] (by decide) rfl
  have e : r04_CheckMap l0 = 20 := lp_r (Eq.trans (hq27) (Eq.trans (congrArg (fun q => r04_CheckMap_L0 l0 q k21) hd32) (Eq.trans (bnd_of hr44) (if_neg h49))))
  obtain rfl := e.symm.trans hr
  exact ⟨rfl, H61⟩
  refine Wp.cond0 rfl (decide_eq_false h29) (Wp.exit (Fin.thenX ?_))
  have hL62 : r04_CheckMap_L0 l0 l0 0 = Sum.inl () := Eq.trans (hq27) (Eq.trans (congrArg (fun q => r04_CheckMap_L0 l0 q k21) (drop_end (ls := l0) (i := k21) (by omega))) rfl)
  refine Fin.thenX (Fin.blockX (Fin.then (Wp.seq (Wp.region (As rfl rfl (WL.nil (Fin.then (Wp.ret (Fin.res (res1 rfl rfl) ?_)))))))))
  have H63 := H25.pick [] (by decide) rfl
  have e : r04_CheckMap l0 = 0 := lp_l hL62
  obtain rfl := e.symm.trans hr
  exact ⟨rfl, H63⟩

def r02_below (p0 : List UInt8) (p1 : List UInt8) : Bool :=
  if p0 ≠ ([]) then if p1 = ([]) then true else decide (p0 < p1) else false

set_option maxRecDepth 100000 in
theorem r02_below_ok (w : World) (D : Nat → Prop) (p0 : List UInt8) (p1 : List UInt8) (r0 : Bool) (H : Own w D w [])  (hr : r02_below p0 p1 = r0) :
    Calls Tryz.prog 46 #[.string ⟨List.toArray p0⟩, .string ⟨List.toArray p1⟩] w (Ret fun v w' => v = .bool r0 ∧ Own w D w' []) := by
  refine Calls.body (args := [.string ⟨List.toArray p0⟩, .string ⟨List.toArray p1⟩]) Tryz.func46 rfl rfl rfl ?_
  show Wp _ _ _ [(0, .string ⟨List.toArray p0⟩), (1, .string ⟨List.toArray p1⟩)] _ _
  refine Wp.seq (Wp.region (As rfl rfl (WL.nil (Fin.then (Wp.seq (Wp.region (Mv rfl rfl (WL.val (v := .bool (decide (p0 ≠ ([])))) rfl (Yl.strNe rfl rfl) (Mv rfl rfl ?_)))))))))
  by_cases h21 : p0 ≠ ([])
  refine WL.valG (v := .string ⟨List.toArray p1⟩) rfl rfl (decide_eq_true h21) rfl (Yl.move rfl) (WL.valG (v := .bool (decide (p1 = ([])))) rfl rfl (decide_eq_true h21) rfl (Yl.strEq rfl rfl) (WL.valG (v := .bool (decide (p1 = ([])))) rfl rfl (decide_eq_true h21) rfl (Yl.move rfl) ?_))
  by_cases h22 : p1 = ([])
  refine Sk rfl rfl (decide_eq_true h22) rfl (Sk rfl rfl (decide_eq_true h22) rfl (Sk rfl rfl (decide_eq_true h22) rfl (WL.valG (v := .bool true) rfl rfl (decide_eq_true h21) rfl (Yl.pickT rfl (decide_eq_true h22) rfl) (WL.val (v := .bool true) rfl (Yl.pickT rfl (decide_eq_true h21) rfl) (As rfl rfl (WL.nil (Fin.then (Wp.ret (Fin.res (res1 rfl rfl) ?_)))))))))
  have H23 : Own w D w [] := H.pick [] (by decide) rfl
  have e : r02_below p0 p1 = true := Eq.trans (if_pos h21) (if_pos h22)
  obtain rfl := e.symm.trans hr
  exact ⟨rfl, H23⟩
  refine WL.valG (v := .string ⟨List.toArray p0⟩) rfl rfl (decide_eq_false h22) rfl (Yl.move rfl) (WL.valG (v := .string ⟨List.toArray p1⟩) rfl rfl (decide_eq_false h22) rfl (Yl.move rfl) (WL.valG (v := .bool (decide (p0 < p1))) rfl rfl (decide_eq_false h22) rfl (Yl.bool (e := Op.bytesLess p0 p1) (Yl.strLt rfl rfl) (bl_lt _ _)) (WL.valG (v := .bool (decide (p0 < p1))) rfl rfl (decide_eq_true h21) rfl (Yl.pickF rfl (decide_eq_false h22) rfl) (WL.val (v := .bool (decide (p0 < p1))) rfl (Yl.pickT rfl (decide_eq_true h21) rfl) (As rfl rfl (WL.nil (Fin.then (Wp.ret (Fin.res (res1 rfl rfl) ?_)))))))))
  have H24 : Own w D w [] := H.pick [] (by decide) rfl
  have e : r02_below p0 p1 = decide (p0 < p1) := Eq.trans (if_pos h21) (if_neg h22)
  obtain rfl := e.symm.trans hr
  exact ⟨rfl, H24⟩
  refine Sk rfl rfl (decide_eq_false h21) rfl (Sk rfl rfl (decide_eq_false h21) rfl (Sk rfl rfl (decide_eq_false h21) rfl (WL.skipU rfl rfl rfl (WL.skipU rfl rfl rfl (WL.skipU rfl rfl rfl (Sk rfl rfl (decide_eq_false h21) rfl (WL.val (v := .bool false) rfl (Yl.pickF rfl (decide_eq_false h21) rfl) (As rfl rfl (WL.nil (Fin.then (Wp.ret (Fin.res (res1 rfl rfl) ?_))))))))))))
  have H25 : Own w D w [] := H.pick [] (by decide) rfl
  have e : r02_below p0 p1 = false := if_neg h21
  obtain rfl := e.symm.trans hr
  exact ⟨rfl, H25⟩

def r02_Covers (p0 : RangeD) (p1 : RangeD) : Bool :=
  bnd (r02_Check p0) fun yr32 => if yr32 = 0 then bnd (r02_Check p1) fun yr43 => if yr43 = 0 then if p0.xLo ≤ p1.xLo then bnd (r02_below p0.xHi p1.xHi) fun yr55 => !yr55 else false else false else false

set_option maxRecDepth 100000 in
theorem r02_Covers_ok (w : World) (D : Nat → Prop) (p0 : RangeD) (p1 : RangeD) (r0 : Bool) (H : Own w D w [])  (hr : r02_Covers p0 p1 = r0) :
    Calls Tryz.prog 27 #[.agg (RangeD.cells p0).toArray, .agg (RangeD.cells p1).toArray] w (Ret fun v w' => v = .bool r0 ∧ Own w D w' []) := by
  refine Calls.body (args := [.agg (RangeD.cells p0).toArray, .agg (RangeD.cells p1).toArray]) Tryz.func27 rfl rfl rfl ?_
  show Wp _ _ _ [(0, .agg (RangeD.cells p0).toArray), (1, .agg (RangeD.cells p1).toArray)] _ _
  refine Wp.seq (Wp.region ?_)
  refine WL.do rfl (Do.newP (cs := (RangeD.cells p0)) (t := 55) H rfl rfl (fun _ => by kernel_rfl) ?_)
  intro g21 w22 H23
  refine WL.do rfl (Do.newP (cs := (RangeD.cells p1)) (t := 55) H23 rfl rfl (fun _ => by kernel_rfl) ?_)
  intro g24 w25 H26
  refine As rfl rfl (WL.nil (Fin.then (Wp.seq (Wp.region (WL.val (v := .agg (RangeD.cells p0).toArray) rfl (Yl.load rfl (Lds.agg (cs := (RangeD.cells p0)) Tryz.isAgg55 Tryz.sizeOf55 ((H26.cls (i := 1) rfl).lit (k := 0) (m := 2) rfl))) ?_)))))
  obtain ⟨r32, hr33⟩ : ∃ q, r02_Check p0 = q := ⟨_, rfl⟩
  obtain ⟨D27, HP28, ro29, bk30, rr31⟩ := Own.enter0 H26
  refine WL.do rfl (Do.call Tryz.call45 rfl (r02_Check_ok _ _ p0 r32 HP28 hr33) ?_)
  rintro _ w34 ⟨rfl, HQ35⟩
  have H36 := bk30 _ _ HQ35
  refine Kn (v := .bool (decide (r32 = 0))) rfl rfl rfl (fun _ => by kernel_rfl) (Mv rfl rfl ?_)
  by_cases h37 : r32 = 0
  refine WL.valG (v := .agg (RangeD.cells p1).toArray) rfl rfl (decide_eq_true h37) rfl (Yl.load rfl (Lds.agg (cs := (RangeD.cells p1)) Tryz.isAgg55 Tryz.sizeOf55 ((H36.cls (i := 0) rfl).lit (k := 0) (m := 2) rfl))) ?_
  obtain ⟨r43, hr44⟩ : ∃ q, r02_Check p1 = q := ⟨_, rfl⟩
  obtain ⟨D38, HP39, ro40, bk41, rr42⟩ := Own.enter0 H36
  refine WL.doG rfl rfl (decide_eq_true h37) rfl (Do.call Tryz.call45 rfl (r02_Check_ok _ _ p1 r43 HP39 hr44) ?_)
  rintro _ w45 ⟨rfl, HQ46⟩
  have H47 := bk41 _ _ HQ46
  refine WL.valG (v := .bool (decide (r43 = 0))) rfl rfl (decide_eq_true h37) rfl (Yl.kern rfl rfl (fun _ => by kernel_rfl)) (WL.val (v := .bool (decide (r43 = 0))) rfl (Yl.pickT rfl (decide_eq_true h37) rfl) (Mv rfl rfl ?_))
  by_cases h48 : r43 = 0
  refine WL.valG (v := .pointer (some ⟨g21, 0, none⟩)) rfl rfl (decide_eq_true h48) rfl (Yl.kern rfl rfl (fun _ => by kernel_rfl)) (WL.valG (v := .string ⟨List.toArray p0.xLo⟩) rfl rfl (decide_eq_true h48) rfl (Yl.load rfl (Lds.one Tryz.isAgg9 (Cls.of (H47.cls (i := 1) rfl) rfl))) (WL.valG (v := .pointer (some ⟨g24, 0, none⟩)) rfl rfl (decide_eq_true h48) rfl (Yl.kern rfl rfl (fun _ => by kernel_rfl)) (WL.valG (v := .string ⟨List.toArray p1.xLo⟩) rfl rfl (decide_eq_true h48) rfl (Yl.load rfl (Lds.one Tryz.isAgg9 (Cls.of (H47.cls (i := 0) rfl) rfl))) (WL.valG (v := .bool (decide (p0.xLo ≤ p1.xLo))) rfl rfl (decide_eq_true h48) rfl (Yl.bool (e := Op.bytesLess p0.xLo p1.xLo || decide (p0.xLo = p1.xLo)) (Yl.strLe rfl rfl) (bl_le _ _)) (WL.val (v := .bool (decide (p0.xLo ≤ p1.xLo))) rfl (Yl.pickT rfl (decide_eq_true h48) rfl) (Mv rfl rfl ?_))))))
  by_cases h49 : p0.xLo ≤ p1.xLo
  refine WL.valG (v := .pointer (some ⟨g21, 1, none⟩)) rfl rfl (decide_eq_true h49) rfl (Yl.kern rfl rfl (fun _ => by kernel_rfl)) (WL.valG (v := .string ⟨List.toArray p0.xHi⟩) rfl rfl (decide_eq_true h49) rfl (Yl.load rfl (Lds.one Tryz.isAgg9 (Cls.of (H47.cls (i := 1) rfl) rfl))) (WL.valG (v := .pointer (some ⟨g24, 1, none⟩)) rfl rfl (decide_eq_true h49) rfl (Yl.kern rfl rfl (fun _ => by kernel_rfl)) (WL.valG (v := .string ⟨List.toArray p1.xHi⟩) rfl rfl (decide_eq_true h49) rfl (Yl.load rfl (Lds.one Tryz.isAgg9 (Cls.of (H47.cls (i := 0) rfl) rfl))) ?_)))
  obtain ⟨r55, hr56⟩ : ∃ q, r02_below p0.xHi p1.xHi = q := ⟨_, rfl⟩
  obtain ⟨D50, HP51, ro52, bk53, rr54⟩ := Own.enter0 H47
  refine WL.doG rfl rfl (decide_eq_true h49) rfl (Do.call Tryz.call46 rfl (r02_below_ok _ _ p0.xHi p1.xHi r55 HP51 hr56) ?_)
  rintro _ w57 ⟨rfl, HQ58⟩
  have H59 := bk53 _ _ HQ58
  refine WL.valG (v := .bool (!r55)) rfl rfl (decide_eq_true h49) rfl (Yl.kern rfl rfl (fun _ => by kernel_rfl)) (WL.val (v := .bool (!r55)) rfl (Yl.pickT rfl (decide_eq_true h49) rfl) (As rfl rfl (WL.nil (Fin.then (Wp.ret (Fin.res (res1 rfl rfl) ?_))))))
  have H60 := H59.pick [] (by decide) rfl
  have e : r02_Covers p0 p1 = !r55 := Eq.trans (bnd_of hr33) (Eq.trans (if_pos h37) (Eq.trans (bnd_of hr44) (Eq.trans (if_pos h48) (Eq.trans (if_pos h49) (bnd_of hr56)))))
  obtain rfl := e.symm.trans hr
  exact ⟨rfl, H60⟩
  refine Sk rfl rfl (decide_eq_false h49) rfl (Sk rfl rfl (decide_eq_false h49) rfl (Sk rfl rfl (decide_eq_false h49) rfl (Sk rfl rfl (decide_eq_false h49) rfl (Sk rfl rfl (decide_eq_false h49) rfl (Sk rfl rfl (decide_eq_false h49) rfl (WL.val (v := .bool false) rfl (Yl.pickF rfl (decide_eq_false h49) rfl) (As rfl rfl (WL.nil (Fin.then (Wp.ret (Fin.res (res1 rfl rfl) ?_)))))))))))
  have H61 := H47.pick [] (by decide) rfl
  have e : r02_Covers p0 p1 = false := Eq.trans (bnd_of hr33) (Eq.trans (if_pos h37) (Eq.trans (bnd_of hr44) (Eq.trans (if_pos h48) (if_neg h49))))
  obtain rfl := e.symm.trans hr
  exact ⟨rfl, H61⟩
  refine Sk rfl rfl (decide_eq_false h48) rfl (Sk rfl rfl (decide_eq_false h48) rfl (Sk rfl rfl (decide_eq_false h48) rfl (Sk rfl rfl (decide_eq_false h48) rfl (Sk rfl rfl (decide_eq_false h48) rfl (WL.val (v := .bool false) rfl (Yl.pickF rfl (decide_eq_false h48) rfl) (Mv rfl rfl (Sk rfl rfl rfl rfl (Sk rfl rfl rfl rfl (Sk rfl rfl rfl rfl (Sk rfl rfl rfl rfl (Sk rfl rfl rfl rfl (Sk rfl rfl rfl rfl (WL.val (v := .bool false) rfl (Yl.pickF rfl rfl rfl) (As rfl rfl (WL.nil (Fin.then (Wp.ret (Fin.res (res1 rfl rfl) ?_))))))))))))))))))
  have H62 := H47.pick [] (by decide) rfl
  have e : r02_Covers p0 p1 = false := Eq.trans (bnd_of hr33) (Eq.trans (if_pos h37) (Eq.trans (bnd_of hr44) (if_neg h48)))
  obtain rfl := e.symm.trans hr
  exact ⟨rfl, H62⟩
  refine Sk rfl rfl (decide_eq_false h37) rfl (Sk rfl rfl (decide_eq_false h37) rfl (Sk rfl rfl (decide_eq_false h37) rfl (WL.val (v := .bool false) rfl (Yl.pickF rfl (decide_eq_false h37) rfl) (Mv rfl rfl (Sk rfl rfl rfl rfl (Sk rfl rfl rfl rfl (Sk rfl rfl rfl rfl (Sk rfl rfl rfl rfl (Sk rfl rfl rfl rfl (WL.val (v := .bool false) rfl (Yl.pickF rfl rfl rfl) (Mv rfl rfl (Sk rfl rfl rfl rfl (Sk rfl rfl rfl rfl (Sk rfl rfl rfl rfl (Sk rfl rfl rfl rfl (Sk rfl rfl rfl rfl (Sk rfl rfl rfl rfl (WL.val (v := .bool false) rfl (Yl.pickF rfl rfl rfl) (As rfl rfl (WL.nil (Fin.then (Wp.ret (Fin.res (res1 rfl rfl) ?_)))))))))))))))))))))))
  have H63 := H36.pick [] (by decide) rfl
  have e : r02_Covers p0 p1 = false := Eq.trans (bnd_of hr33) (if_neg h37)
  obtain rfl := e.symm.trans hr
  exact ⟨rfl, H63⟩

def r02_Has (p0 : RangeD) (p1 : List UInt8) : Bool :=
  bnd (r02_Check p0) fun yr29 => if yr29 = 0 then bnd (r02_CheckKey p1) fun yr40 => if yr40 = 0 then if p0.xLo ≤ p1 then if p0.xHi = ([]) then true else decide (p1 < p0.xHi) else false else false else false

set_option maxRecDepth 100000 in
theorem r02_Has_ok (w : World) (D : Nat → Prop) (p0 : RangeD) (p1 : List UInt8) (r0 : Bool) (H : Own w D w [])  (hr : r02_Has p0 p1 = r0) :
    Calls Tryz.prog 28 #[.agg (RangeD.cells p0).toArray, .string ⟨List.toArray p1⟩] w (Ret fun v w' => v = .bool r0 ∧ Own w D w' []) := by
  refine Calls.body (args := [.agg (RangeD.cells p0).toArray, .string ⟨List.toArray p1⟩]) Tryz.func28 rfl rfl rfl ?_
  show Wp _ _ _ [(0, .agg (RangeD.cells p0).toArray), (1, .string ⟨List.toArray p1⟩)] _ _
  refine Wp.seq (Wp.region ?_)
  refine WL.do rfl (Do.newP (cs := (RangeD.cells p0)) (t := 55) H rfl rfl (fun _ => by kernel_rfl) ?_)
  intro g21 w22 H23
  refine As rfl rfl (WL.nil (Fin.then (Wp.seq (Wp.region (WL.val (v := .agg (RangeD.cells p0).toArray) rfl (Yl.load rfl (Lds.agg (cs := (RangeD.cells p0)) Tryz.isAgg55 Tryz.sizeOf55 ((H23.cls (i := 0) rfl).lit (k := 0) (m := 2) rfl))) ?_)))))
  obtain ⟨r29, hr30⟩ : ∃ q, r02_Check p0 = q := ⟨_, rfl⟩
  obtain ⟨D24, HP25, ro26, bk27, rr28⟩ := Own.enter0 H23
  refine WL.do rfl (Do.call Tryz.call45 rfl (r02_Check_ok _ _ p0 r29 HP25 hr30) ?_)
  rintro _ w31 ⟨rfl, HQ32⟩
  have H33 := bk27 _ _ HQ32
  refine Kn (v := .bool (decide (r29 = 0))) rfl rfl rfl (fun _ => by kernel_rfl) (Mv rfl rfl ?_)
  by_cases h34 : r29 = 0
  refine WL.valG (v := .string ⟨List.toArray p1⟩) rfl rfl (decide_eq_true h34) rfl (Yl.move rfl) ?_
  obtain ⟨r40, hr41⟩ : ∃ q, r02_CheckKey p1 = q := ⟨_, rfl⟩
  obtain ⟨D35, HP36, ro37, bk38, rr39⟩ := Own.enter0 H33
  refine WL.doG rfl rfl (decide_eq_true h34) rfl (Do.call Tryz.call42 rfl (r02_CheckKey_ok _ _ p1 r40 HP36 hr41) ?_)
  rintro _ w42 ⟨rfl, HQ43, hk45⟩
  have H44 := bk38 _ _ HQ43
  replace hk45 : ¬ (r40 = 0) ∨ (1 ≤ p1.length ∧ p1.length ≤ 12) := hk45
  refine WL.valG (v := .bool (decide (r40 = 0))) rfl rfl (decide_eq_true h34) rfl (Yl.kern rfl rfl (fun _ => by kernel_rfl)) (WL.val (v := .bool (decide (r40 = 0))) rfl (Yl.pickT rfl (decide_eq_true h34) rfl) (Mv rfl rfl ?_))
  by_cases h46 : r40 = 0
  refine WL.valG (v := .string ⟨List.toArray p1⟩) rfl rfl (decide_eq_true h46) rfl (Yl.move rfl) (WL.valG (v := .pointer (some ⟨g21, 0, none⟩)) rfl rfl (decide_eq_true h46) rfl (Yl.kern rfl rfl (fun _ => by kernel_rfl)) (WL.valG (v := .string ⟨List.toArray p0.xLo⟩) rfl rfl (decide_eq_true h46) rfl (Yl.load rfl (Lds.one Tryz.isAgg9 (Cls.of (H44.cls (i := 0) rfl) rfl))) (WL.valG (v := .bool (decide (p0.xLo ≤ p1))) rfl rfl (decide_eq_true h46) rfl (Yl.bool (e := !(Op.bytesLess p1 p0.xLo)) (Yl.strGe rfl rfl) (bl_ge _ _)) (WL.val (v := .bool (decide (p0.xLo ≤ p1))) rfl (Yl.pickT rfl (decide_eq_true h46) rfl) (Mv rfl rfl ?_)))))
  by_cases h47 : p0.xLo ≤ p1
  refine WL.valG (v := .pointer (some ⟨g21, 1, none⟩)) rfl rfl (decide_eq_true h47) rfl (Yl.kern rfl rfl (fun _ => by kernel_rfl)) (WL.valG (v := .string ⟨List.toArray p0.xHi⟩) rfl rfl (decide_eq_true h47) rfl (Yl.load rfl (Lds.one Tryz.isAgg9 (Cls.of (H44.cls (i := 0) rfl) rfl))) (WL.valG (v := .bool (decide (p0.xHi = ([])))) rfl rfl (decide_eq_true h47) rfl (Yl.strEq rfl rfl) (WL.valG (v := .bool (decide (p0.xHi = ([])))) rfl rfl (decide_eq_true h47) rfl (Yl.move rfl) ?_)))
  by_cases h48 : p0.xHi = ([])
  refine Sk rfl rfl (decide_eq_true h48) rfl (Sk rfl rfl (decide_eq_true h48) rfl (Sk rfl rfl (decide_eq_true h48) rfl (Sk rfl rfl (decide_eq_true h48) rfl (WL.valG (v := .bool true) rfl rfl (decide_eq_true h47) rfl (Yl.pickT rfl (decide_eq_true h48) rfl) (WL.val (v := .bool true) rfl (Yl.pickT rfl (decide_eq_true h47) rfl) (As rfl rfl (WL.nil (Fin.then (Wp.ret (Fin.res (res1 rfl rfl) ?_))))))))))
  have H49 := H44.pick [] (by decide) rfl
  have e : r02_Has p0 p1 = true := Eq.trans (bnd_of hr30) (Eq.trans (if_pos h34) (Eq.trans (bnd_of hr41) (Eq.trans (if_pos h46) (Eq.trans (if_pos h47) (if_pos h48)))))
  obtain rfl := e.symm.trans hr
  exact ⟨rfl, H49⟩
  refine WL.valG (v := .string ⟨List.toArray p1⟩) rfl rfl (decide_eq_false h48) rfl (Yl.move rfl) (WL.valG (v := .pointer (some ⟨g21, 1, none⟩)) rfl rfl (decide_eq_false h48) rfl (Yl.kern rfl rfl (fun _ => by kernel_rfl)) (WL.valG (v := .string ⟨List.toArray p0.xHi⟩) rfl rfl (decide_eq_false h48) rfl (Yl.load rfl (Lds.one Tryz.isAgg9 (Cls.of (H44.cls (i := 0) rfl) rfl))) (WL.valG (v := .bool (decide (p1 < p0.xHi))) rfl rfl (decide_eq_false h48) rfl (Yl.bool (e := Op.bytesLess p1 p0.xHi) (Yl.strLt rfl rfl) (bl_lt _ _)) (WL.valG (v := .bool (decide (p1 < p0.xHi))) rfl rfl (decide_eq_true h47) rfl (Yl.pickF rfl (decide_eq_false h48) rfl) (WL.val (v := .bool (decide (p1 < p0.xHi))) rfl (Yl.pickT rfl (decide_eq_true h47) rfl) (As rfl rfl (WL.nil (Fin.then (Wp.ret (Fin.res (res1 rfl rfl) ?_))))))))))
  have H50 := H44.pick [] (by decide) rfl
  have e : r02_Has p0 p1 = decide (p1 < p0.xHi) := Eq.trans (bnd_of hr30) (Eq.trans (if_pos h34) (Eq.trans (bnd_of hr41) (Eq.trans (if_pos h46) (Eq.trans (if_pos h47) (if_neg h48)))))
  obtain rfl := e.symm.trans hr
  exact ⟨rfl, H50⟩
  refine Sk rfl rfl (decide_eq_false h47) rfl (Sk rfl rfl (decide_eq_false h47) rfl (Sk rfl rfl (decide_eq_false h47) rfl (Sk rfl rfl (decide_eq_false h47) rfl (WL.skipU rfl rfl rfl (WL.skipU rfl rfl rfl (WL.skipU rfl rfl rfl (WL.skipU rfl rfl rfl (Sk rfl rfl (decide_eq_false h47) rfl (WL.val (v := .bool false) rfl (Yl.pickF rfl (decide_eq_false h47) rfl) (As rfl rfl (WL.nil (Fin.then (Wp.ret (Fin.res (res1 rfl rfl) ?_))))))))))))))
  have H51 := H44.pick [] (by decide) rfl
  have e : r02_Has p0 p1 = false := Eq.trans (bnd_of hr30) (Eq.trans (if_pos h34) (Eq.trans (bnd_of hr41) (Eq.trans (if_pos h46) (if_neg h47))))
  obtain rfl := e.symm.trans hr
  exact ⟨rfl, H51⟩
  refine Sk rfl rfl (decide_eq_false h46) rfl (Sk rfl rfl (decide_eq_false h46) rfl (Sk rfl rfl (decide_eq_false h46) rfl (Sk rfl rfl (decide_eq_false h46) rfl (WL.val (v := .bool false) rfl (Yl.pickF rfl (decide_eq_false h46) rfl) (Mv rfl rfl (Sk rfl rfl rfl rfl (Sk rfl rfl rfl rfl (Sk rfl rfl rfl rfl (Sk rfl rfl rfl rfl (WL.skipU rfl rfl rfl (WL.skipU rfl rfl rfl (WL.skipU rfl rfl rfl (WL.skipU rfl rfl rfl (Sk rfl rfl rfl rfl (WL.val (v := .bool false) rfl (Yl.pickF rfl rfl rfl) (As rfl rfl (WL.nil (Fin.then (Wp.ret (Fin.res (res1 rfl rfl) ?_))))))))))))))))))))
  have H52 := H44.pick [] (by decide) rfl
  have e : r02_Has p0 p1 = false := Eq.trans (bnd_of hr30) (Eq.trans (if_pos h34) (Eq.trans (bnd_of hr41) (if_neg h46)))
  obtain rfl := e.symm.trans hr
  exact ⟨rfl, H52⟩
  refine Sk rfl rfl (decide_eq_false h34) rfl (Sk rfl rfl (decide_eq_false h34) rfl (Sk rfl rfl (decide_eq_false h34) rfl (WL.val (v := .bool false) rfl (Yl.pickF rfl (decide_eq_false h34) rfl) (Mv rfl rfl (Sk rfl rfl rfl rfl (Sk rfl rfl rfl rfl (Sk rfl rfl rfl rfl (Sk rfl rfl rfl rfl (WL.val (v := .bool false) rfl (Yl.pickF rfl rfl rfl) (Mv rfl rfl (Sk rfl rfl rfl rfl (Sk rfl rfl rfl rfl (Sk rfl rfl rfl rfl (Sk rfl rfl rfl rfl (WL.skipU rfl rfl rfl (WL.skipU rfl rfl rfl (WL.skipU rfl rfl rfl (WL.skipU rfl rfl rfl (Sk rfl rfl rfl rfl (WL.val (v := .bool false) rfl (Yl.pickF rfl rfl rfl) (As rfl rfl (WL.nil (Fin.then (Wp.ret (Fin.res (res1 rfl rfl) ?_)))))))))))))))))))))))))
  have H53 := H33.pick [] (by decide) rfl
  have e : r02_Has p0 p1 = false := Eq.trans (bnd_of hr30) (if_neg h34)
  obtain rfl := e.symm.trans hr
  exact ⟨rfl, H53⟩

def r13_Check_L0 (p0 : NodeT) : List Int → Unit ⊕ Int
  | [] => Sum.inl ()
  | x55 :: q47 => if x55 < 1 then Sum.inr (130) else if x55 > 2147483647 then Sum.inr (130) else r13_Check_L0 p0 q47

def r13_Check_L1 (p0 : NodeT) : List (Ll EntryD) → Unit ⊕ Int
  | [] => Sum.inl ()
  | x84 :: q76 => bnd (r12_Check x84.ls) fun yr94 => if yr94 = 0 then r13_Check_L1 p0 q76 else Sum.inr (yr94)

def r13_Check_L3 (k103 : Nat) (r122 : RangeD) : List EntryD → Unit ⊕ Int
  | [] => Sum.inl ()
  | x141 :: q133 => if x141.xOp.xKind = 5 then bnd (r02_Covers r122 (RangeD.mk x141.xOp.xLo x141.xOp.xHi)) fun yr155 => if yr155 = true then r13_Check_L3 k103 r122 q133 else Sum.inr (130) else bnd (r02_Has r122 x141.xOp.xKey) fun yr170 => if yr170 = true then r13_Check_L3 k103 r122 q133 else Sum.inr (130)

def r13_Check_L2 (p0 : NodeT) : List (Ll EntryD) → Nat → Unit ⊕ Int
  | [], k103 => Sum.inl ()
  | x112 :: q104, k103 => bnd (r12_Range p0.xPivots.ls ((k103 : Nat) : Int)) fun yr122 => lpS (r13_Check_L3 k103 yr122 x112.ls) fun _ => r13_Check_L2 p0 q104 (k103 + 1)

def r13_Check (p0 : NodeT) : Int :=
  if p0.xLeaf = true then if IntKind.i64.wrap ((IntKind.i64.wrap (((p0.xKids.ls.length : Nat) : Int) + ((p0.xPivots.ls.length : Nat) : Int))) + ((p0.xBuffers.ls.length : Nat) : Int)) > 0 then 130 else bnd (r04_CheckMap p0.xPairs.ls) fun yr32 => yr32 else if ((p0.xPairs.ls.length : Nat) : Int) > 0 then 130 else if ((p0.xKids.ls.length : Nat) : Int) < 2 then 130 else if ((p0.xKids.ls.length : Nat) : Int) > 8 then 130 else if ((p0.xPivots.ls.length : Nat) : Int) = ((p0.xKids.ls.length - 1 : Nat) : Int) then if ((p0.xBuffers.ls.length : Nat) : Int) = ((p0.xKids.ls.length : Nat) : Int) then lp (r13_Check_L0 p0 p0.xKids.ls) fun _ => bnd (r12_Pivots p0.xPivots.ls) fun yr69 => if yr69 = 0 then lp (r13_Check_L1 p0 p0.xBuffers.ls) fun _ => lp (r13_Check_L2 p0 p0.xBuffers.ls 0) fun _ => 0 else 130 else 130 else 130

set_option maxRecDepth 100000 in
theorem r13_Check_ok (w : World) (D : Nat → Prop) (p0 : NodeT) (A0x0 : Option Addr) (n0x0 c0x0 : Nat) (A0x1 : Option Addr) (n0x1 c0x1 : Nat) (A0x2 : Option Addr) (n0x2 c0x2 : Nat) (A0x3 : Option Addr) (n0x3 c0x3 : Nat) (d0x3 : List Row46D) (r0 : Int) (H : Own w D w []) (hn0x0 : n0x0 = p0.xPairs.ls.length) (hx0x0 : Ro w D fun w' => Rds w' 2 A0x0 p0.xPairs.ls.length (List.flatMap PairD.cells p0.xPairs.ls)) (hb0x0 : p0.xPairs.ls.length ≤ c0x0 ∧ p0.xPairs.ls.length ≤ 9223372036854775807) (hn0x1 : n0x1 = p0.xKids.ls.length) (hx0x1 : Ro w D fun w' => Rds w' 1 A0x1 p0.xKids.ls.length (List.flatMap (eI .i64) p0.xKids.ls)) (hb0x1 : p0.xKids.ls.length ≤ c0x1 ∧ p0.xKids.ls.length ≤ 9223372036854775807) (hn0x2 : n0x2 = p0.xPivots.ls.length) (hx0x2 : Ro w D fun w' => Rds w' 1 A0x2 p0.xPivots.ls.length (List.flatMap eS p0.xPivots.ls)) (hb0x2 : p0.xPivots.ls.length ≤ c0x2 ∧ p0.xPivots.ls.length ≤ 9223372036854775807) (hd0x3 : List.map Row46D.abs d0x3 = p0.xBuffers.ls) (hn0x3 : n0x3 = p0.xBuffers.ls.length) (hx0x3 : Ro w D fun w' => Rds w' 1 A0x3 p0.xBuffers.ls.length (List.flatMap (Sv.enc (β := EntryD)) d0x3)) (hb0x3 : p0.xBuffers.ls.length ≤ c0x3 ∧ p0.xBuffers.ls.length ≤ 9223372036854775807) (hm0x3 : ∀ x ∈ d0x3, Ro w D (fun w' => Rds w' 7 x.A x.ls.length (List.flatMap EntryD.cells x.ls)) ∧ x.ls.length ≤ 9223372036854775807) (hr : r13_Check p0 = r0) :
    Calls Tryz.prog 11 #[.agg #[.bool p0.xLeaf, .slice A0x0 n0x0 c0x0, .slice A0x1 n0x1 c0x1, .slice A0x2 n0x2 c0x2, .slice A0x3 n0x3 c0x3]] w (Ret fun v w' => v = .int .i64 r0 ∧ Own w D w' [] ∧ (¬ (r0 = 0) ∨ p0.xLeaf = true ∨ (p0.xKids.ls.length ≤ 8 ∧ p0.xPivots.ls.length ≤ 8 ∧ p0.xBuffers.ls.length ≤ 8))) := by
  subst hn0x0 hn0x1 hn0x2 hn0x3
  have hdl0x3 := abs_len hd0x3
  refine Calls.body (args := [.agg #[.bool p0.xLeaf, .slice A0x0 p0.xPairs.ls.length c0x0, .slice A0x1 p0.xKids.ls.length c0x1, .slice A0x2 p0.xPivots.ls.length c0x2, .slice A0x3 p0.xBuffers.ls.length c0x3]]) Tryz.func11 rfl rfl rfl ?_
  show Wp _ _ _ [(0, .agg #[.bool p0.xLeaf, .slice A0x0 p0.xPairs.ls.length c0x0, .slice A0x1 p0.xKids.ls.length c0x1, .slice A0x2 p0.xPivots.ls.length c0x2, .slice A0x3 p0.xBuffers.ls.length c0x3])] _ _
  refine Wp.seq (Wp.region ?_)
  refine WL.do rfl (Do.newP (cs := [.bool p0.xLeaf, .slice A0x0 p0.xPairs.ls.length c0x0, .slice A0x1 p0.xKids.ls.length c0x1, .slice A0x2 p0.xPivots.ls.length c0x2, .slice A0x3 p0.xBuffers.ls.length c0x3]) (t := 27) H rfl rfl (fun _ => by kernel_rfl) ?_)
  intro g21 w22 H23
  refine As rfl rfl (WL.nil (Fin.then (Wp.seq (Wp.seq (Wp.region (Kn (v := .pointer (some ⟨g21, 0, none⟩)) rfl rfl rfl (fun _ => by kernel_rfl) (WL.val (v := .bool p0.xLeaf) rfl (Yl.load rfl (Lds.one Tryz.isAgg4 (Cls.of (H23.cls (i := 0) rfl) rfl))) (WL.nil (Fin.then ?_)))))))))
  rcases Bool.eq_false_or_eq_true (p0.xLeaf) with h24 | h24
  refine Wp.cond1 rfl h24 (Wp.seq (Wp.seq (Wp.region (Kn (v := .pointer (some ⟨g21, 2, none⟩)) rfl rfl rfl (fun _ => by kernel_rfl) (WL.val (v := .slice A0x1 p0.xKids.ls.length c0x1) rfl (Yl.load rfl (Lds.one Tryz.isAgg23 (Cls.of (H23.cls (i := 0) rfl) rfl))) (Kn (v := .int .i64 ((p0.xKids.ls.length : Nat) : Int)) rfl rfl rfl (fun _ => by kernel_rfl) (Kn (v := .pointer (some ⟨g21, 3, none⟩)) rfl rfl rfl (fun _ => by kernel_rfl) (WL.val (v := .slice A0x2 p0.xPivots.ls.length c0x2) rfl (Yl.load rfl (Lds.one Tryz.isAgg24 (Cls.of (H23.cls (i := 0) rfl) rfl))) (Kn (v := .int .i64 ((p0.xPivots.ls.length : Nat) : Int)) rfl rfl rfl (fun _ => by kernel_rfl) (Kn (v := .int .i64 (IntKind.i64.wrap (((p0.xKids.ls.length : Nat) : Int) + ((p0.xPivots.ls.length : Nat) : Int)))) rfl rfl rfl (fun _ => by kernel_rfl) (Kn (v := .pointer (some ⟨g21, 4, none⟩)) rfl rfl rfl (fun _ => by kernel_rfl) (WL.val (v := .slice A0x3 p0.xBuffers.ls.length c0x3) rfl (Yl.load rfl (Lds.one Tryz.isAgg25 (Cls.of (H23.cls (i := 0) rfl) rfl))) (Kn (v := .int .i64 ((p0.xBuffers.ls.length : Nat) : Int)) rfl rfl rfl (fun _ => by kernel_rfl) (Kn (v := .int .i64 (IntKind.i64.wrap ((IntKind.i64.wrap (((p0.xKids.ls.length : Nat) : Int) + ((p0.xPivots.ls.length : Nat) : Int))) + ((p0.xBuffers.ls.length : Nat) : Int)))) rfl rfl rfl (fun _ => by kernel_rfl) (Kn (v := .bool (decide (IntKind.i64.wrap ((IntKind.i64.wrap (((p0.xKids.ls.length : Nat) : Int) + ((p0.xPivots.ls.length : Nat) : Int))) + ((p0.xBuffers.ls.length : Nat) : Int)) > 0))) rfl rfl rfl (fun _ => by kernel_rfl) (WL.nil (Fin.then ?_)))))))))))))))))
  by_cases h25 : IntKind.i64.wrap ((IntKind.i64.wrap (((p0.xKids.ls.length : Nat) : Int) + ((p0.xPivots.ls.length : Nat) : Int))) + ((p0.xBuffers.ls.length : Nat) : Int)) > 0
  refine Wp.cond1 rfl (decide_eq_true h25) (Wp.seq (Wp.region (As rfl rfl (WL.nil (Fin.then (Wp.ret (Fin.thenR (Fin.thenR (Fin.res (res1 rfl rfl) ?_)))))))))
  have H26 := H23.pick [] (by decide) rfl
  have e : r13_Check p0 = 130 := Eq.trans (if_pos h24) (if_pos h25)
  obtain rfl := e.symm.trans hr
  exact ⟨rfl, H26, (by first | exact .inl (by omega) | exact .inr (.inl (by assumption)) | exact .inr (.inr (by omega)) | assumption)⟩
  refine Wp.cond0 rfl (decide_eq_false h25) (Wp.skip (Fin.then (Wp.seq (Wp.region (Kn (v := .pointer (some ⟨g21, 1, none⟩)) rfl rfl rfl (fun _ => by kernel_rfl) (WL.val (v := .slice A0x0 p0.xPairs.ls.length c0x0) rfl (Yl.load rfl (Lds.one Tryz.isAgg22 (Cls.of (H23.cls (i := 0) rfl) rfl))) ?_))))))
  obtain ⟨r32, hr33⟩ : ∃ q, r04_CheckMap p0.xPairs.ls = q := ⟨_, rfl⟩
  obtain ⟨D27, HP28, ro29, bk30, rr31⟩ := Own.enter0 H23
  refine WL.do rfl (Do.call Tryz.call23 rfl (r04_CheckMap_ok _ _ A0x0 p0.xPairs.ls.length c0x0 p0.xPairs.ls r32 HP28 (ro29 _ hx0x0) rfl (by omega) hr33) ?_)
  rintro _ w34 ⟨rfl, HQ35⟩
  have H36 := bk30 _ _ HQ35
  refine As rfl rfl (WL.nil (Fin.then (Wp.ret (Fin.thenR (Fin.res (res1 rfl rfl) ?_)))))
  have H37 := H36.pick [] (by decide) rfl
  have e : r13_Check p0 = r32 := Eq.trans (if_pos h24) (Eq.trans (if_neg h25) (bnd_of hr33))
  obtain rfl := e.symm.trans hr
  exact ⟨rfl, H37, (by first | exact .inl (by omega) | exact .inr (.inl (by assumption)) | exact .inr (.inr (by omega)) | assumption)⟩
  refine Wp.cond0 rfl h24 (Wp.skip (Fin.then (Wp.seq (Wp.seq (Wp.region (Kn (v := .pointer (some ⟨g21, 1, none⟩)) rfl rfl rfl (fun _ => by kernel_rfl) (WL.val (v := .slice A0x0 p0.xPairs.ls.length c0x0) rfl (Yl.load rfl (Lds.one Tryz.isAgg22 (Cls.of (H23.cls (i := 0) rfl) rfl))) (Kn (v := .int .i64 ((p0.xPairs.ls.length : Nat) : Int)) rfl rfl rfl (fun _ => by kernel_rfl) (Kn (v := .bool (decide (((p0.xPairs.ls.length : Nat) : Int) > 0))) rfl rfl rfl (fun _ => by kernel_rfl) (Mv rfl rfl ?_))))))))))
  by_cases h38 : ((p0.xPairs.ls.length : Nat) : Int) > 0
  refine Sk rfl rfl (decide_eq_true h38) rfl (Sk rfl rfl (decide_eq_true h38) rfl (Sk rfl rfl (decide_eq_true h38) rfl (Sk rfl rfl (decide_eq_true h38) rfl (WL.val (v := .bool true) rfl (Yl.pickT rfl (decide_eq_true h38) rfl) (Mv rfl rfl (Sk rfl rfl rfl rfl (Sk rfl rfl rfl rfl (Sk rfl rfl rfl rfl (Sk rfl rfl rfl rfl (WL.val (v := .bool true) rfl (Yl.pickT rfl rfl rfl) (Mv rfl rfl (Sk rfl rfl rfl rfl (Sk rfl rfl rfl rfl (Sk rfl rfl rfl rfl (Sk rfl rfl rfl rfl (Sk rfl rfl rfl rfl (Sk rfl rfl rfl rfl (Sk rfl rfl rfl rfl (Sk rfl rfl rfl rfl (WL.val (v := .bool true) rfl (Yl.pickT rfl rfl rfl) (Mv rfl rfl (Sk rfl rfl rfl rfl (Sk rfl rfl rfl rfl (Sk rfl rfl rfl rfl (Sk rfl rfl rfl rfl (Sk rfl rfl rfl rfl (Sk rfl rfl rfl rfl (Sk rfl rfl rfl rfl (WL.val (v := .bool true) rfl (Yl.pickT rfl rfl rfl) (WL.nil (Fin.then (Wp.cond1 rfl rfl (Wp.seq (Wp.region (As rfl rfl (WL.nil (Fin.then (Wp.ret (Fin.thenR ?_)))))))))))))))))))))))))))))))))))))))
  refine Fin.res (res1 rfl rfl) ?_
  have H39 := H23.pick [] (by decide) rfl
  have e : r13_Check p0 = 130 := Eq.trans (ifF h24) (if_pos h38)
  obtain rfl := e.symm.trans hr
  exact ⟨rfl, H39, (by first | exact .inl (by omega) | exact .inr (.inl (by assumption)) | exact .inr (.inr (by omega)) | assumption)⟩
  refine WL.valG (v := .pointer (some ⟨g21, 2, none⟩)) rfl rfl (decide_eq_false h38) rfl (Yl.kern rfl rfl (fun _ => by kernel_rfl)) (WL.valG (v := .slice A0x1 p0.xKids.ls.length c0x1) rfl rfl (decide_eq_false h38) rfl (Yl.load rfl (Lds.one Tryz.isAgg23 (Cls.of (H23.cls (i := 0) rfl) rfl))) (WL.valG (v := .int .i64 ((p0.xKids.ls.length : Nat) : Int)) rfl rfl (decide_eq_false h38) rfl (Yl.kern rfl rfl (fun _ => by kernel_rfl)) (WL.valG (v := .bool (decide (((p0.xKids.ls.length : Nat) : Int) < 2))) rfl rfl (decide_eq_false h38) rfl (Yl.kern rfl rfl (fun _ => by kernel_rfl)) (WL.val (v := .bool (decide (((p0.xKids.ls.length : Nat) : Int) < 2))) rfl (Yl.pickF rfl (decide_eq_false h38) rfl) (Mv rfl rfl ?_)))))
  by_cases h40 : ((p0.xKids.ls.length : Nat) : Int) < 2
  refine Sk rfl rfl (decide_eq_true h40) rfl (Sk rfl rfl (decide_eq_true h40) rfl (Sk rfl rfl (decide_eq_true h40) rfl (Sk rfl rfl (decide_eq_true h40) rfl (WL.val (v := .bool true) rfl (Yl.pickT rfl (decide_eq_true h40) rfl) (Mv rfl rfl (Sk rfl rfl rfl rfl (Sk rfl rfl rfl rfl (Sk rfl rfl rfl rfl (Sk rfl rfl rfl rfl (Sk rfl rfl rfl rfl (Sk rfl rfl rfl rfl (Sk rfl rfl rfl rfl (Sk rfl rfl rfl rfl (WL.val (v := .bool true) rfl (Yl.pickT rfl rfl rfl) (Mv rfl rfl (Sk rfl rfl rfl rfl (Sk rfl rfl rfl rfl (Sk rfl rfl rfl rfl (Sk rfl rfl rfl rfl (Sk rfl rfl rfl rfl (Sk rfl rfl rfl rfl (Sk rfl rfl rfl rfl (WL.val (v := .bool true) rfl (Yl.pickT rfl rfl rfl) (WL.nil (Fin.then (Wp.cond1 rfl rfl (Wp.seq (Wp.region (As rfl rfl (WL.nil (Fin.then (Wp.ret (Fin.thenR (Fin.res (res1 rfl rfl) ?_))))))))))))))))))))))))))))))))))
  have H41 := H23.pick [] (by decide) rfl
  have e : r13_Check p0 = 130 := Eq.trans (ifF h24) (Eq.trans (if_neg h38) (if_pos h40))
  obtain rfl := e.symm.trans hr
  exact ⟨rfl, H41, (by first | exact .inl (by omega) | exact .inr (.inl (by assumption)) | exact .inr (.inr (by omega)) | assumption)⟩
  refine WL.valG (v := .pointer (some ⟨g21, 2, none⟩)) rfl rfl (decide_eq_false h40) rfl (Yl.kern rfl rfl (fun _ => by kernel_rfl)) (WL.valG (v := .slice A0x1 p0.xKids.ls.length c0x1) rfl rfl (decide_eq_false h40) rfl (Yl.load rfl (Lds.one Tryz.isAgg23 (Cls.of (H23.cls (i := 0) rfl) rfl))) (WL.valG (v := .int .i64 ((p0.xKids.ls.length : Nat) : Int)) rfl rfl (decide_eq_false h40) rfl (Yl.kern rfl rfl (fun _ => by kernel_rfl)) (WL.valG (v := .bool (decide (((p0.xKids.ls.length : Nat) : Int) > 8))) rfl rfl (decide_eq_false h40) rfl (Yl.kern rfl rfl (fun _ => by kernel_rfl)) (WL.val (v := .bool (decide (((p0.xKids.ls.length : Nat) : Int) > 8))) rfl (Yl.pickF rfl (decide_eq_false h40) rfl) (Mv rfl rfl ?_)))))
  by_cases h42 : ((p0.xKids.ls.length : Nat) : Int) > 8
  refine Sk rfl rfl (decide_eq_true h42) rfl (Sk rfl rfl (decide_eq_true h42) rfl (Sk rfl rfl (decide_eq_true h42) rfl (Sk rfl rfl (decide_eq_true h42) rfl (Sk rfl rfl (decide_eq_true h42) rfl (Sk rfl rfl (decide_eq_true h42) rfl (Sk rfl rfl (decide_eq_true h42) rfl (Sk rfl rfl (decide_eq_true h42) rfl (WL.val (v := .bool true) rfl (Yl.pickT rfl (decide_eq_true h42) rfl) (Mv rfl rfl (Sk rfl rfl rfl rfl (Sk rfl rfl rfl rfl (Sk rfl rfl rfl rfl (Sk rfl rfl rfl rfl (Sk rfl rfl rfl rfl (Sk rfl rfl rfl rfl (Sk rfl rfl rfl rfl (WL.val (v := .bool true) rfl (Yl.pickT rfl rfl rfl) (WL.nil (Fin.then (Wp.cond1 rfl rfl (Wp.seq (Wp.region (As rfl rfl (WL.nil (Fin.then (Wp.ret (Fin.thenR (Fin.res (res1 rfl rfl) ?_))))))))))))))))))))))))))))
  have H43 := H23.pick [] (by decide) rfl
  have e : r13_Check p0 = 130 := Eq.trans (ifF h24) (Eq.trans (if_neg h38) (Eq.trans (if_neg h40) (if_pos h42)))
  obtain rfl := e.symm.trans hr
  exact ⟨rfl, H43, (by first | exact .inl (by omega) | exact .inr (.inl (by assumption)) | exact .inr (.inr (by omega)) | assumption)⟩
  refine WL.valG (v := .pointer (some ⟨g21, 3, none⟩)) rfl rfl (decide_eq_false h42) rfl (Yl.kern rfl rfl (fun _ => by kernel_rfl)) (WL.valG (v := .slice A0x2 p0.xPivots.ls.length c0x2) rfl rfl (decide_eq_false h42) rfl (Yl.load rfl (Lds.one Tryz.isAgg24 (Cls.of (H23.cls (i := 0) rfl) rfl))) (WL.valG (v := .int .i64 ((p0.xPivots.ls.length : Nat) : Int)) rfl rfl (decide_eq_false h42) rfl (Yl.kern rfl rfl (fun _ => by kernel_rfl)) (WL.valG (v := .pointer (some ⟨g21, 2, none⟩)) rfl rfl (decide_eq_false h42) rfl (Yl.kern rfl rfl (fun _ => by kernel_rfl)) (WL.valG (v := .slice A0x1 p0.xKids.ls.length c0x1) rfl rfl (decide_eq_false h42) rfl (Yl.load rfl (Lds.one Tryz.isAgg23 (Cls.of (H23.cls (i := 0) rfl) rfl))) (WL.valG (v := .int .i64 ((p0.xKids.ls.length : Nat) : Int)) rfl rfl (decide_eq_false h42) rfl (Yl.kern rfl rfl (fun _ => by kernel_rfl)) (WL.valG (v := .int .i64 ((p0.xKids.ls.length - 1 : Nat) : Int)) rfl rfl (decide_eq_false h42) rfl (Yl.int (e := IntKind.i64.wrap (((p0.xKids.ls.length : Nat) : Int) - 1)) (Yl.kern rfl rfl (fun _ => by kernel_rfl)) (by rw [IntWalk.i64_in _ (by omega)]; omega)) (WL.valG (v := .bool (decide (¬ (((p0.xPivots.ls.length : Nat) : Int) = ((p0.xKids.ls.length - 1 : Nat) : Int))))) rfl rfl (decide_eq_false h42) rfl (Yl.bool (e := !(decide (((p0.xPivots.ls.length : Nat) : Int) = ((p0.xKids.ls.length - 1 : Nat) : Int)))) (Yl.kern rfl rfl (fun _ => by kernel_rfl)) decide_not.symm) (WL.val (v := .bool (decide (¬ (((p0.xPivots.ls.length : Nat) : Int) = ((p0.xKids.ls.length - 1 : Nat) : Int))))) rfl (Yl.pickF rfl (decide_eq_false h42) rfl) (Mv rfl rfl ?_)))))))))
  by_cases h44 : ((p0.xPivots.ls.length : Nat) : Int) = ((p0.xKids.ls.length - 1 : Nat) : Int)
  refine WL.valG (v := .pointer (some ⟨g21, 4, none⟩)) rfl rfl (decide_eq_false (not_not_intro h44)) rfl (Yl.kern rfl rfl (fun _ => by kernel_rfl)) (WL.valG (v := .slice A0x3 p0.xBuffers.ls.length c0x3) rfl rfl (decide_eq_false (not_not_intro h44)) rfl (Yl.load rfl (Lds.one Tryz.isAgg25 (Cls.of (H23.cls (i := 0) rfl) rfl))) (WL.valG (v := .int .i64 ((p0.xBuffers.ls.length : Nat) : Int)) rfl rfl (decide_eq_false (not_not_intro h44)) rfl (Yl.kern rfl rfl (fun _ => by kernel_rfl)) (WL.valG (v := .pointer (some ⟨g21, 2, none⟩)) rfl rfl (decide_eq_false (not_not_intro h44)) rfl (Yl.kern rfl rfl (fun _ => by kernel_rfl)) (WL.valG (v := .slice A0x1 p0.xKids.ls.length c0x1) rfl rfl (decide_eq_false (not_not_intro h44)) rfl (Yl.load rfl (Lds.one Tryz.isAgg23 (Cls.of (H23.cls (i := 0) rfl) rfl))) (WL.valG (v := .int .i64 ((p0.xKids.ls.length : Nat) : Int)) rfl rfl (decide_eq_false (not_not_intro h44)) rfl (Yl.kern rfl rfl (fun _ => by kernel_rfl)) (WL.valG (v := .bool (decide (¬ (((p0.xBuffers.ls.length : Nat) : Int) = ((p0.xKids.ls.length : Nat) : Int))))) rfl rfl (decide_eq_false (not_not_intro h44)) rfl (Yl.bool (e := !(decide (((p0.xBuffers.ls.length : Nat) : Int) = ((p0.xKids.ls.length : Nat) : Int)))) (Yl.kern rfl rfl (fun _ => by kernel_rfl)) decide_not.symm) (WL.val (v := .bool (decide (¬ (((p0.xBuffers.ls.length : Nat) : Int) = ((p0.xKids.ls.length : Nat) : Int))))) rfl (Yl.pickF rfl (decide_eq_false (not_not_intro h44)) rfl) (WL.nil (Fin.then ?_)))))))))
  by_cases h45 : ((p0.xBuffers.ls.length : Nat) : Int) = ((p0.xKids.ls.length : Nat) : Int)
  refine Wp.cond0 rfl (decide_eq_false (not_not_intro h45)) (Wp.skip (Fin.then (Wp.seq (Wp.seq (Wp.region (Kn (v := .pointer (some ⟨g21, 2, none⟩)) rfl rfl rfl (fun _ => by kernel_rfl) (WL.val (v := .slice A0x1 p0.xKids.ls.length c0x1) rfl (Yl.load rfl (Lds.one Tryz.isAgg23 (Cls.of (H23.cls (i := 0) rfl) rfl))) (Kn (v := .int .i64 ((p0.xKids.ls.length : Nat) : Int)) rfl rfl rfl (fun _ => by kernel_rfl) (Mv rfl rfl (WL.nil (Fin.then (Wp.block ?_))))))))))))
  have H48 := H23.pick [0] (by decide) rfl
  refine Wp.loop (ι := Nat) (fun i => [(2, .int .i64 0), (68, .int .i64 ((i : Nat) : Int)), (67, .int .i64 ((p0.xKids.ls.length : Nat) : Int)), (66, .slice A0x1 p0.xKids.ls.length c0x1), (1, .pointer (some ⟨g21, 0, none⟩))]) (fun (i : Nat) w' => Own w D w' [blk g21 [.bool p0.xLeaf, .slice A0x0 p0.xPairs.ls.length c0x0, .slice A0x1 p0.xKids.ls.length c0x1, .slice A0x2 p0.xPivots.ls.length c0x2, .slice A0x3 p0.xBuffers.ls.length c0x3] 27] ∧ (i ≤ p0.xKids.ls.length ∧ r13_Check_L0 p0 p0.xKids.ls = r13_Check_L0 p0 (List.drop i p0.xKids.ls))) (fun i => p0.xKids.ls.length - i) 0 ⟨rfl, rfl, rfl, rfl, rfl, trivial⟩ ⟨H48, (show 0 ≤ p0.xKids.ls.length ∧ r13_Check_L0 p0 p0.xKids.ls = r13_Check_L0 p0 (List.drop 0 p0.xKids.ls) from ⟨by omega, rfl⟩)⟩ ?_
  rintro k46 w49 ⟨H50, hf51⟩
  show Wp _ _ _ [(2, .int .i64 0), (68, .int .i64 ((k46 : Nat) : Int)), (67, .int .i64 ((p0.xKids.ls.length : Nat) : Int)), (66, .slice A0x1 p0.xKids.ls.length c0x1), (1, .pointer (some ⟨g21, 0, none⟩))] _ _
  replace hf51 : k46 ≤ p0.xKids.ls.length ∧ r13_Check_L0 p0 p0.xKids.ls = r13_Check_L0 p0 (List.drop k46 p0.xKids.ls) := hf51
  obtain ⟨hi53, hq52⟩ := hf51
  refine Wp.seq (Wp.region (Kn (v := .bool (decide (((k46 : Nat) : Int) < ((p0.xKids.ls.length : Nat) : Int)))) rfl rfl rfl (fun _ => by kernel_rfl) (WL.nil (Fin.then (Wp.seq ?_)))))
  by_cases h54 : ((k46 : Nat) : Int) < ((p0.xKids.ls.length : Nat) : Int)
  obtain ⟨x55, hx56⟩ := rds_at (ls := p0.xKids.ls) (i := k46) eI_len (by decide) (H50.ro hx0x1) (by first | omega | (simp; done) | (simp; omega))
  have hd57 := drop_at hx56
  refine Wp.cond1 rfl (decide_eq_true h54) (Wp.skip (Fin.then (Wp.seq (Wp.block (Wp.seq (Wp.region (WL.val (v := .pointer (some ⟨ab A0x1, ao A0x1 + k46 * 1, none⟩)) rfl (Yl.indexAddr (El23) rfl rfl ((H50.ro hx0x1).addr (i := k46) (by omega)) (by omega)) (WL.val (v := .int .i64 x55) rfl (Yl.load rfl (Lds.one Tryz.isAgg3 (((H50.ro hx0x1).elem eI_len hx56 (by decide)).at_ (k := 0) rfl))) (As rfl rfl (WL.nil (Fin.then (Wp.seq (Wp.region (Mv rfl rfl (Kn (v := .bool (decide (x55 < 1))) rfl rfl rfl (fun _ => by kernel_rfl) (Mv rfl rfl ?_))))))))))))))))
  by_cases h58 : x55 < 1
  refine Sk rfl rfl (decide_eq_true h58) rfl (Sk rfl rfl (decide_eq_true h58) rfl (WL.val (v := .bool true) rfl (Yl.pickT rfl (decide_eq_true h58) rfl) (WL.nil (Fin.then (Wp.cond1 rfl rfl (Wp.seq (Wp.region (As rfl rfl (WL.nil (Fin.then (Wp.ret (Fin.blockR (Fin.thenR (Fin.thenR (Fin.blockR (Fin.thenR (Fin.res (res1 rfl rfl) ?_)))))))))))))))))
  have H59 := H50.pick [] (by decide) rfl
  have e : r13_Check p0 = 130 := Eq.trans (ifF h24) (Eq.trans (if_neg h38) (Eq.trans (if_neg h40) (Eq.trans (if_neg h42) (Eq.trans (if_pos h44) (Eq.trans (if_pos h45) (lp_r (Eq.trans (hq52) (Eq.trans (congrArg (fun q => r13_Check_L0 p0 q) hd57) (if_pos h58)))))))))
  obtain rfl := e.symm.trans hr
  exact ⟨rfl, H59, (by first | exact .inl (by omega) | exact .inr (.inl (by assumption)) | exact .inr (.inr (by omega)) | assumption)⟩
  refine WL.valG (v := .int .i64 x55) rfl rfl (decide_eq_false h58) rfl (Yl.move rfl) (WL.valG (v := .bool (decide (x55 > 2147483647))) rfl rfl (decide_eq_false h58) rfl (Yl.kern rfl rfl (fun _ => by kernel_rfl)) (WL.val (v := .bool (decide (x55 > 2147483647))) rfl (Yl.pickF rfl (decide_eq_false h58) rfl) (WL.nil (Fin.then ?_))))
  by_cases h60 : x55 > 2147483647
  refine Wp.cond1 rfl (decide_eq_true h60) (Wp.seq (Wp.region (As rfl rfl (WL.nil (Fin.then (Wp.ret (Fin.blockR (Fin.thenR (Fin.thenR (Fin.blockR (Fin.thenR (Fin.res (res1 rfl rfl) ?_))))))))))))
  have H61 := H50.pick [] (by decide) rfl
  have e : r13_Check p0 = 130 := Eq.trans (ifF h24) (Eq.trans (if_neg h38) (Eq.trans (if_neg h40) (Eq.trans (if_neg h42) (Eq.trans (if_pos h44) (Eq.trans (if_pos h45) (lp_r (Eq.trans (hq52) (Eq.trans (congrArg (fun q => r13_Check_L0 p0 q) hd57) (Eq.trans (if_neg h58) (if_pos h60))))))))))
  obtain rfl := e.symm.trans hr
  exact ⟨rfl, H61, (by first | exact .inl (by omega) | exact .inr (.inl (by assumption)) | exact .inr (.inr (by omega)) | assumption)⟩
  refine Wp.cond0 rfl (decide_eq_false h60) (Wp.skip (Fin.blockN (Fin.then (Wp.region (WL.val (v := .int .i64 ((k46 + 1 : Nat) : Int)) rfl (Yl.int (e := IntKind.i64.wrap (((k46 : Nat) : Int) + 1)) (Yl.kern rfl rfl (fun _ => by kernel_rfl)) (by rw [IntWalk.i64_in _ (by omega)]; omega)) (Mv rfl rfl (WL.nil ?_)))))))
  have H62 := H50.pick [0] (by decide) rfl
  exact Fin.round (k46 + 1) ⟨rfl, rfl, rfl, rfl, rfl, trivial⟩ ⟨H62, (show (k46 + 1) ≤ p0.xKids.ls.length ∧ r13_Check_L0 p0 p0.xKids.ls = r13_Check_L0 p0 (List.drop (k46 + 1) p0.xKids.ls) from ⟨by omega, Eq.trans (hq52) (Eq.trans (congrArg (fun q => r13_Check_L0 p0 q) hd57) (Eq.trans (if_neg h58) (if_neg h60)))⟩)⟩ (by show p0.xKids.ls.length - (k46 + 1) < p0.xKids.ls.length - k46; omega)
  refine Wp.cond0 rfl (decide_eq_false h54) (Wp.exit (Fin.thenX ?_))
  have hL63 : r13_Check_L0 p0 p0.xKids.ls = Sum.inl () := Eq.trans (hq52) (Eq.trans (congrArg (fun q => r13_Check_L0 p0 q) (drop_end (ls := p0.xKids.ls) (i := k46) (by omega))) rfl)
  refine Fin.thenX (Fin.blockX (Fin.then (Wp.seq (Wp.seq (Wp.region (Kn (v := .pointer (some ⟨g21, 3, none⟩)) rfl rfl rfl (fun _ => by kernel_rfl) (WL.val (v := .slice A0x2 p0.xPivots.ls.length c0x2) rfl (Yl.load rfl (Lds.one Tryz.isAgg24 (Cls.of (H50.cls (i := 0) rfl) rfl))) ?_)))))))
  obtain ⟨r69, hr70⟩ : ∃ q, r12_Pivots p0.xPivots.ls = q := ⟨_, rfl⟩
  obtain ⟨D64, HP65, ro66, bk67, rr68⟩ := Own.enter0 H50
  refine WL.do rfl (Do.call Tryz.call24 rfl (r12_Pivots_ok _ _ A0x2 p0.xPivots.ls.length c0x2 p0.xPivots.ls r69 HP65 (ro66 _ hx0x2) rfl (by omega) hr70) ?_)
  rintro _ w71 ⟨rfl, HQ72⟩
  have H73 := bk67 _ _ HQ72
  refine WL.val (v := .bool (decide (¬ (r69 = 0)))) rfl (Yl.bool (e := !(decide (r69 = 0))) (Yl.kern rfl rfl (fun _ => by kernel_rfl)) decide_not.symm) (WL.nil (Fin.then ?_))
  by_cases h74 : r69 = 0
  refine Wp.cond0 rfl (decide_eq_false (not_not_intro h74)) (Wp.skip (Fin.then (Wp.seq (Wp.seq (Wp.region (Kn (v := .pointer (some ⟨g21, 4, none⟩)) rfl rfl rfl (fun _ => by kernel_rfl) (WL.val (v := .slice A0x3 p0.xBuffers.ls.length c0x3) rfl (Yl.load rfl (Lds.one Tryz.isAgg25 (Cls.of (H73.cls (i := 0) rfl) rfl))) (Kn (v := .int .i64 ((p0.xBuffers.ls.length : Nat) : Int)) rfl rfl rfl (fun _ => by kernel_rfl) (Mv rfl rfl (WL.nil (Fin.then (Wp.block ?_))))))))))))
  have H77 := H73.pick [0] (by decide) rfl
  refine Wp.loop (ι := Nat) (fun i => [(2, .int .i64 0), (86, .int .i64 ((i : Nat) : Int)), (85, .int .i64 ((p0.xBuffers.ls.length : Nat) : Int)), (84, .slice A0x3 p0.xBuffers.ls.length c0x3), (1, .pointer (some ⟨g21, 0, none⟩))]) (fun (i : Nat) w' => Own w D w' [blk g21 [.bool p0.xLeaf, .slice A0x0 p0.xPairs.ls.length c0x0, .slice A0x1 p0.xKids.ls.length c0x1, .slice A0x2 p0.xPivots.ls.length c0x2, .slice A0x3 p0.xBuffers.ls.length c0x3] 27] ∧ (i ≤ p0.xBuffers.ls.length ∧ r13_Check_L1 p0 p0.xBuffers.ls = r13_Check_L1 p0 (List.drop i p0.xBuffers.ls))) (fun i => p0.xBuffers.ls.length - i) 0 ⟨rfl, rfl, rfl, rfl, rfl, trivial⟩ ⟨H77, (show 0 ≤ p0.xBuffers.ls.length ∧ r13_Check_L1 p0 p0.xBuffers.ls = r13_Check_L1 p0 (List.drop 0 p0.xBuffers.ls) from ⟨by omega, rfl⟩)⟩ ?_
  rintro k75 w78 ⟨H79, hf80⟩
  show Wp _ _ _ [(2, .int .i64 0), (86, .int .i64 ((k75 : Nat) : Int)), (85, .int .i64 ((p0.xBuffers.ls.length : Nat) : Int)), (84, .slice A0x3 p0.xBuffers.ls.length c0x3), (1, .pointer (some ⟨g21, 0, none⟩))] _ _
  replace hf80 : k75 ≤ p0.xBuffers.ls.length ∧ r13_Check_L1 p0 p0.xBuffers.ls = r13_Check_L1 p0 (List.drop k75 p0.xBuffers.ls) := hf80
  obtain ⟨hi82, hq81⟩ := hf80
  refine Wp.seq (Wp.region (Kn (v := .bool (decide (((k75 : Nat) : Int) < ((p0.xBuffers.ls.length : Nat) : Int)))) rfl rfl rfl (fun _ => by kernel_rfl) (WL.nil (Fin.then (Wp.seq ?_)))))
  by_cases h83 : ((k75 : Nat) : Int) < ((p0.xBuffers.ls.length : Nat) : Int)
  obtain ⟨x84, hx85⟩ := rds_at (ls := d0x3) (i := k75) svLen (by decide) (H79.ro hx0x3) (by first | omega | (simp; done) | (simp; omega))
  have hX86 := abs_at hd0x3 hx85
  have hb87 := (hm0x3 _ (List.mem_of_getElem? hx85)).2
  have hd88 := drop_at hX86
  refine Wp.cond1 rfl (decide_eq_true h83) (Wp.skip (Fin.then (Wp.seq (Wp.block (Wp.seq (Wp.region (WL.val (v := .pointer (some ⟨ab A0x3, ao A0x3 + k75 * 1, none⟩)) rfl (Yl.indexAddr (El25) rfl rfl ((H79.ro hx0x3).addr (i := k75) (by omega)) (by omega)) (WL.val (v := .slice x84.A x84.ls.length x84.c) rfl (Yl.load rfl (Lds.one Tryz.isAgg46 (((H79.ro hx0x3).elem svLen hx85 (by decide)).at_ (k := 0) rfl))) (As rfl rfl (WL.nil (Fin.then (Wp.seq (Wp.region (Mv rfl rfl ?_))))))))))))))
  obtain ⟨r94, hr95⟩ : ∃ q, r12_Check x84.ls = q := ⟨_, rfl⟩
  obtain ⟨D89, HP90, ro91, bk92, rr93⟩ := Own.enter0 H79
  refine WL.do rfl (Do.call Tryz.call25 rfl (r12_Check_ok _ _ x84.A x84.ls.length x84.c x84.ls r94 HP90 (ro91 _ (hm0x3 _ (List.mem_of_getElem? hx85)).1) rfl (by omega) hr95) ?_)
  rintro _ w96 ⟨rfl, HQ97⟩
  have H98 := bk92 _ _ HQ97
  refine As rfl rfl (WL.nil (Fin.then (Wp.seq (Wp.region (Mv rfl rfl (WL.val (v := .bool (decide (¬ (r94 = 0)))) rfl (Yl.bool (e := !(decide (r94 = 0))) (Yl.kern rfl rfl (fun _ => by kernel_rfl)) decide_not.symm) (WL.nil (Fin.then ?_))))))))
  by_cases h99 : r94 = 0
  refine Wp.cond0 rfl (decide_eq_false (not_not_intro h99)) (Wp.skip (Fin.blockN (Fin.then (Wp.region (WL.val (v := .int .i64 ((k75 + 1 : Nat) : Int)) rfl (Yl.int (e := IntKind.i64.wrap (((k75 : Nat) : Int) + 1)) (Yl.kern rfl rfl (fun _ => by kernel_rfl)) (by rw [IntWalk.i64_in _ (by omega)]; omega)) (Mv rfl rfl (WL.nil ?_)))))))
  have H100 := H98.pick [0] (by decide) rfl
  exact Fin.round (k75 + 1) ⟨rfl, rfl, rfl, rfl, rfl, trivial⟩ ⟨H100, (show (k75 + 1) ≤ p0.xBuffers.ls.length ∧ r13_Check_L1 p0 p0.xBuffers.ls = r13_Check_L1 p0 (List.drop (k75 + 1) p0.xBuffers.ls) from ⟨by omega, Eq.trans (hq81) (Eq.trans (congrArg (fun q => r13_Check_L1 p0 q) hd88) (Eq.trans (bnd_of hr95) (if_pos h99)))⟩)⟩ (by show p0.xBuffers.ls.length - (k75 + 1) < p0.xBuffers.ls.length - k75; omega)
  refine Wp.cond1 rfl (decide_eq_true h99) (Wp.seq (Wp.region (Mv rfl rfl (As rfl rfl (WL.nil (Fin.then (Wp.ret (Fin.blockR (Fin.thenR (Fin.thenR (Fin.blockR (Fin.thenR (Fin.res (res1 rfl rfl) ?_)))))))))))))
  have H101 := H98.pick [] (by decide) rfl
  have e : r13_Check p0 = r94 := Eq.trans (ifF h24) (Eq.trans (if_neg h38) (Eq.trans (if_neg h40) (Eq.trans (if_neg h42) (Eq.trans (if_pos h44) (Eq.trans (if_pos h45) (Eq.trans (lp_l hL63) (Eq.trans (bnd_of hr70) (Eq.trans (if_pos h74) (lp_r (Eq.trans (hq81) (Eq.trans (congrArg (fun q => r13_Check_L1 p0 q) hd88) (Eq.trans (bnd_of hr95) (if_neg h99)))))))))))))
  obtain rfl := e.symm.trans hr
  exact ⟨rfl, H101, (by first | exact .inl (by omega) | exact .inr (.inl (by assumption)) | exact .inr (.inr (by omega)) | assumption)⟩
  refine Wp.cond0 rfl (decide_eq_false h83) (Wp.exit (Fin.thenX ?_))
  have hL102 : r13_Check_L1 p0 p0.xBuffers.ls = Sum.inl () := Eq.trans (hq81) (Eq.trans (congrArg (fun q => r13_Check_L1 p0 q) (drop_end (ls := p0.xBuffers.ls) (i := k75) (by omega))) rfl)
  refine Fin.thenX (Fin.blockX (Fin.then (Wp.seq (Wp.seq (Wp.region (Kn (v := .pointer (some ⟨g21, 4, none⟩)) rfl rfl rfl (fun _ => by kernel_rfl) (WL.val (v := .slice A0x3 p0.xBuffers.ls.length c0x3) rfl (Yl.load rfl (Lds.one Tryz.isAgg25 (Cls.of (H79.cls (i := 0) rfl) rfl))) (Kn (v := .int .i64 ((p0.xBuffers.ls.length : Nat) : Int)) rfl rfl rfl (fun _ => by kernel_rfl) (Mv rfl rfl (WL.nil (Fin.then (Wp.block ?_))))))))))))
  have H105 := H79.pick [0] (by decide) rfl
  refine Wp.loop (ι := Nat) (fun i => [(2, .int .i64 0), (99, .int .i64 ((i : Nat) : Int)), (98, .int .i64 ((p0.xBuffers.ls.length : Nat) : Int)), (97, .slice A0x3 p0.xBuffers.ls.length c0x3), (1, .pointer (some ⟨g21, 0, none⟩))]) (fun (i : Nat) w' => Own w D w' [blk g21 [.bool p0.xLeaf, .slice A0x0 p0.xPairs.ls.length c0x0, .slice A0x1 p0.xKids.ls.length c0x1, .slice A0x2 p0.xPivots.ls.length c0x2, .slice A0x3 p0.xBuffers.ls.length c0x3] 27] ∧ (i ≤ p0.xBuffers.ls.length ∧ r13_Check_L2 p0 p0.xBuffers.ls 0 = r13_Check_L2 p0 (List.drop i p0.xBuffers.ls) i)) (fun i => p0.xBuffers.ls.length - i) 0 ⟨rfl, rfl, rfl, rfl, rfl, trivial⟩ ⟨H105, (show 0 ≤ p0.xBuffers.ls.length ∧ r13_Check_L2 p0 p0.xBuffers.ls 0 = r13_Check_L2 p0 (List.drop 0 p0.xBuffers.ls) 0 from ⟨by omega, rfl⟩)⟩ ?_
  rintro k103 w106 ⟨H107, hf108⟩
  show Wp _ _ _ [(2, .int .i64 0), (99, .int .i64 ((k103 : Nat) : Int)), (98, .int .i64 ((p0.xBuffers.ls.length : Nat) : Int)), (97, .slice A0x3 p0.xBuffers.ls.length c0x3), (1, .pointer (some ⟨g21, 0, none⟩))] _ _
  replace hf108 : k103 ≤ p0.xBuffers.ls.length ∧ r13_Check_L2 p0 p0.xBuffers.ls 0 = r13_Check_L2 p0 (List.drop k103 p0.xBuffers.ls) k103 := hf108
  obtain ⟨hi110, hq109⟩ := hf108
  refine Wp.seq (Wp.region (Kn (v := .bool (decide (((k103 : Nat) : Int) < ((p0.xBuffers.ls.length : Nat) : Int)))) rfl rfl rfl (fun _ => by kernel_rfl) (WL.nil (Fin.then (Wp.seq ?_)))))
  by_cases h111 : ((k103 : Nat) : Int) < ((p0.xBuffers.ls.length : Nat) : Int)
  obtain ⟨x112, hx113⟩ := rds_at (ls := d0x3) (i := k103) svLen (by decide) (H107.ro hx0x3) (by first | omega | (simp; done) | (simp; omega))
  have hX114 := abs_at hd0x3 hx113
  have hb115 := (hm0x3 _ (List.mem_of_getElem? hx113)).2
  have hd116 := drop_at hX114
  refine Wp.cond1 rfl (decide_eq_true h111) (Wp.skip (Fin.then (Wp.seq (Wp.block (Wp.seq (Wp.region (Mv rfl rfl (WL.val (v := .pointer (some ⟨ab A0x3, ao A0x3 + k103 * 1, none⟩)) rfl (Yl.indexAddr (El25) rfl rfl ((H107.ro hx0x3).addr (i := k103) (by omega)) (by omega)) (WL.val (v := .slice x112.A x112.ls.length x112.c) rfl (Yl.load rfl (Lds.one Tryz.isAgg46 (((H107.ro hx0x3).elem svLen hx113 (by decide)).at_ (k := 0) rfl))) (As rfl rfl (As rfl rfl (WL.nil (Fin.then (Wp.seq (Wp.region (Kn (v := .pointer (some ⟨g21, 3, none⟩)) rfl rfl rfl (fun _ => by kernel_rfl) (WL.val (v := .slice A0x2 p0.xPivots.ls.length c0x2) rfl (Yl.load rfl (Lds.one Tryz.isAgg24 (Cls.of (H107.cls (i := 0) rfl) rfl))) (Mv rfl rfl ?_))))))))))))))))))
  obtain ⟨r122, hr123⟩ : ∃ q, r12_Range p0.xPivots.ls ((k103 : Nat) : Int) = q := ⟨_, rfl⟩
  obtain ⟨D117, HP118, ro119, bk120, rr121⟩ := Own.enter0 H107
  refine WL.do rfl (Do.call Tryz.call26 rfl (r12_Range_ok _ _ A0x2 p0.xPivots.ls.length c0x2 p0.xPivots.ls ((k103 : Nat) : Int) r122 HP118 (ro119 _ hx0x2) rfl (by omega) (by omega) hr123) ?_)
  rintro _ w124 ⟨rfl, HQ125⟩
  have H126 := bk120 _ _ HQ125
  refine WL.do rfl (Do.newP (cs := [.string ⟨List.toArray ([])⟩, .string ⟨List.toArray ([])⟩]) (t := 55) H126 rfl rfl (fun _ => by kernel_rfl) ?_)
  intro g127 w128 H129
  refine WL.do0 (Do.store (vs := (RangeD.cells r122)) (o := 0) H129 rfl rfl Tryz.sizeOf55 rfl rfl rfl rfl ?_)
  intro w130 H131
  refine WL.nil (Fin.then (Wp.seq (Wp.region (Mv rfl rfl (Kn (v := .int .i64 ((x112.ls.length : Nat) : Int)) rfl rfl rfl (fun _ => by kernel_rfl) (Mv rfl rfl (WL.nil (Fin.then (Wp.block ?_)))))))))
  have H134 := H131.pick [0, 1] (by decide) rfl
  refine Wp.loop (ι := Nat) (fun i => [(2, .int .i64 0), (110, .int .i64 ((i : Nat) : Int)), (109, .int .i64 ((x112.ls.length : Nat) : Int)), (108, .slice x112.A x112.ls.length x112.c), (10, .pointer (some ⟨g127, 0, none⟩)), (107, .agg (RangeD.cells r122).toArray), (106, .int .i64 ((k103 : Nat) : Int)), (105, .slice A0x2 p0.xPivots.ls.length c0x2), (104, .pointer (some ⟨g21, 3, none⟩)), (9, .slice x112.A x112.ls.length x112.c), (8, .int .i64 ((k103 : Nat) : Int)), (103, .slice x112.A x112.ls.length x112.c), (102, .pointer (some ⟨ab A0x3, ao A0x3 + k103 * 1, none⟩)), (101, .int .i64 ((k103 : Nat) : Int)), (100, .bool (decide (((k103 : Nat) : Int) < ((p0.xBuffers.ls.length : Nat) : Int)))), (99, .int .i64 ((k103 : Nat) : Int)), (98, .int .i64 ((p0.xBuffers.ls.length : Nat) : Int)), (97, .slice A0x3 p0.xBuffers.ls.length c0x3), (1, .pointer (some ⟨g21, 0, none⟩))]) (fun (i : Nat) w' => Own w D w' [blk g127 (RangeD.cells r122) 55, blk g21 [.bool p0.xLeaf, .slice A0x0 p0.xPairs.ls.length c0x0, .slice A0x1 p0.xKids.ls.length c0x1, .slice A0x2 p0.xPivots.ls.length c0x2, .slice A0x3 p0.xBuffers.ls.length c0x3] 27] ∧ (i ≤ x112.ls.length ∧ r13_Check_L3 k103 r122 x112.ls = r13_Check_L3 k103 r122 (List.drop i x112.ls))) (fun i => x112.ls.length - i) 0 ⟨rfl, rfl, rfl, rfl, rfl, rfl, rfl, rfl, rfl, rfl, rfl, rfl, rfl, rfl, rfl, rfl, rfl, rfl, rfl, trivial⟩ ⟨H134, (show 0 ≤ x112.ls.length ∧ r13_Check_L3 k103 r122 x112.ls = r13_Check_L3 k103 r122 (List.drop 0 x112.ls) from ⟨by omega, rfl⟩)⟩ ?_
  rintro k132 w135 ⟨H136, hf137⟩
  show Wp _ _ _ [(2, .int .i64 0), (110, .int .i64 ((k132 : Nat) : Int)), (109, .int .i64 ((x112.ls.length : Nat) : Int)), (108, .slice x112.A x112.ls.length x112.c), (10, .pointer (some ⟨g127, 0, none⟩)), (107, .agg (RangeD.cells r122).toArray), (106, .int .i64 ((k103 : Nat) : Int)), (105, .slice A0x2 p0.xPivots.ls.length c0x2), (104, .pointer (some ⟨g21, 3, none⟩)), (9, .slice x112.A x112.ls.length x112.c), (8, .int .i64 ((k103 : Nat) : Int)), (103, .slice x112.A x112.ls.length x112.c), (102, .pointer (some ⟨ab A0x3, ao A0x3 + k103 * 1, none⟩)), (101, .int .i64 ((k103 : Nat) : Int)), (100, .bool (decide (((k103 : Nat) : Int) < ((p0.xBuffers.ls.length : Nat) : Int)))), (99, .int .i64 ((k103 : Nat) : Int)), (98, .int .i64 ((p0.xBuffers.ls.length : Nat) : Int)), (97, .slice A0x3 p0.xBuffers.ls.length c0x3), (1, .pointer (some ⟨g21, 0, none⟩))] _ _
  replace hf137 : k132 ≤ x112.ls.length ∧ r13_Check_L3 k103 r122 x112.ls = r13_Check_L3 k103 r122 (List.drop k132 x112.ls) := hf137
  obtain ⟨hi139, hq138⟩ := hf137
  refine Wp.seq (Wp.region (Kn (v := .bool (decide (((k132 : Nat) : Int) < ((x112.ls.length : Nat) : Int)))) rfl rfl rfl (fun _ => by kernel_rfl) (WL.nil (Fin.then (Wp.seq ?_)))))
  by_cases h140 : ((k132 : Nat) : Int) < ((x112.ls.length : Nat) : Int)
  obtain ⟨x141, hx142⟩ := rds_at (ls := x112.ls) (i := k132) EntryD.len (by decide) (H136.ro (hm0x3 _ (List.mem_of_getElem? hx113)).1) (by first | omega | (simp; done) | (simp; omega))
  have hd143 := drop_at hx142
  refine Wp.cond1 rfl (decide_eq_true h140) (Wp.skip (Fin.then (Wp.seq (Wp.block (Wp.seq (Wp.region (WL.val (v := .pointer (some ⟨ab x112.A, ao x112.A + k132 * 7, none⟩)) rfl (Yl.indexAddr (El46) rfl rfl ((H136.ro (hm0x3 _ (List.mem_of_getElem? hx113)).1).addr (i := k132) (by omega)) (by omega)) (WL.val (v := .agg (EntryD.cells x141).toArray) rfl (Yl.load rfl (Lds.agg (cs := (EntryD.cells x141)) Tryz.isAgg61 Tryz.sizeOf61 ((H136.ro (hm0x3 _ (List.mem_of_getElem? hx113)).1).elem EntryD.len hx142 (by decide)))) ?_))))))))
  refine WL.do rfl (Do.newP (cs := [.int .u64 0, .int .i64 0, .string ⟨List.toArray ([])⟩, .string ⟨List.toArray ([])⟩, .string ⟨List.toArray ([])⟩, .string ⟨List.toArray ([])⟩, .int .i64 0]) (t := 61) H136 rfl rfl (fun _ => by kernel_rfl) ?_)
  intro g144 w145 H146
  refine WL.do0 (Do.store (vs := (EntryD.cells x141)) (o := 0) H146 rfl rfl Tryz.sizeOf61 rfl rfl rfl rfl ?_)
  intro w147 H148
  refine WL.nil (Fin.then (Wp.seq (Wp.region (Kn (v := .pointer (some ⟨g144, 1, none⟩)) rfl rfl rfl (fun _ => by kernel_rfl) (Kn (v := .pointer (some ⟨g144, 1, none⟩)) rfl rfl rfl (fun _ => by kernel_rfl) (WL.val (v := .int .i64 x141.xOp.xKind) rfl (Yl.load rfl (Lds.one Tryz.isAgg3 (Cls.of (H148.cls (i := 0) rfl) rfl))) (Kn (v := .bool (decide (x141.xOp.xKind = 5))) rfl rfl rfl (fun _ => by kernel_rfl) (Mv rfl rfl ?_))))))))
  by_cases h149 : x141.xOp.xKind = 5
  refine WL.valG (v := .agg (RangeD.cells r122).toArray) rfl rfl (decide_eq_true h149) rfl (Yl.load rfl (Lds.agg (cs := (RangeD.cells r122)) Tryz.isAgg55 Tryz.sizeOf55 ((H148.cls (i := 1) rfl).lit (k := 0) (m := 2) rfl))) (WL.valG (v := .pointer (some ⟨g144, 1, none⟩)) rfl rfl (decide_eq_true h149) rfl (Yl.kern rfl rfl (fun _ => by kernel_rfl)) (WL.valG (v := .pointer (some ⟨g144, 4, none⟩)) rfl rfl (decide_eq_true h149) rfl (Yl.kern rfl rfl (fun _ => by kernel_rfl)) (WL.valG (v := .string ⟨List.toArray x141.xOp.xLo⟩) rfl rfl (decide_eq_true h149) rfl (Yl.load rfl (Lds.one Tryz.isAgg9 (Cls.of (H148.cls (i := 0) rfl) rfl))) (WL.valG (v := .pointer (some ⟨g144, 1, none⟩)) rfl rfl (decide_eq_true h149) rfl (Yl.kern rfl rfl (fun _ => by kernel_rfl)) (WL.valG (v := .pointer (some ⟨g144, 5, none⟩)) rfl rfl (decide_eq_true h149) rfl (Yl.kern rfl rfl (fun _ => by kernel_rfl)) (WL.valG (v := .string ⟨List.toArray x141.xOp.xHi⟩) rfl rfl (decide_eq_true h149) rfl (Yl.load rfl (Lds.one Tryz.isAgg9 (Cls.of (H148.cls (i := 0) rfl) rfl))) (WL.valG (v := .agg #[.string ⟨List.toArray x141.xOp.xLo⟩, .string ⟨List.toArray x141.xOp.xHi⟩]) rfl rfl (decide_eq_true h149) rfl (Yl.kern rfl rfl (fun _ => by kernel_rfl)) ?_)))))))
  obtain ⟨r155, hr156⟩ : ∃ q, r02_Covers r122 (RangeD.mk x141.xOp.xLo x141.xOp.xHi) = q := ⟨_, rfl⟩
  obtain ⟨D150, HP151, ro152, bk153, rr154⟩ := Own.enter0 H148
  refine WL.doG rfl rfl (decide_eq_true h149) rfl (Do.call Tryz.call27 rfl (r02_Covers_ok _ _ r122 (RangeD.mk x141.xOp.xLo x141.xOp.xHi) r155 HP151 hr156) ?_)
  rintro _ w157 ⟨rfl, HQ158⟩
  have H159 := bk153 _ _ HQ158
  refine WL.valG (v := .bool (!r155)) rfl rfl (decide_eq_true h149) rfl (Yl.kern rfl rfl (fun _ => by kernel_rfl)) (WL.val (v := .bool (!r155)) rfl (Yl.pickT rfl (decide_eq_true h149) rfl) (Mv rfl rfl ?_))
  rcases Bool.eq_false_or_eq_true (r155) with h160 | h160
  refine WL.valG (v := .pointer (some ⟨g144, 1, none⟩)) rfl rfl (congrArg not h160) rfl (Yl.kern rfl rfl (fun _ => by kernel_rfl)) (WL.valG (v := .pointer (some ⟨g144, 1, none⟩)) rfl rfl (congrArg not h160) rfl (Yl.kern rfl rfl (fun _ => by kernel_rfl)) (WL.valG (v := .int .i64 x141.xOp.xKind) rfl rfl (congrArg not h160) rfl (Yl.load rfl (Lds.one Tryz.isAgg3 (Cls.of (H159.cls (i := 0) rfl) rfl))) (WL.valG (v := .bool (decide (¬ (x141.xOp.xKind = 5)))) rfl rfl (congrArg not h160) rfl (Yl.bool (e := !(decide (x141.xOp.xKind = 5))) (Yl.kern rfl rfl (fun _ => by kernel_rfl)) decide_not.symm) (WL.valG (v := .bool (decide (¬ (x141.xOp.xKind = 5)))) rfl rfl (congrArg not h160) rfl (Yl.move rfl) ?_))))
  have hb161 : (decide (¬ (x141.xOp.xKind = 5))) = false := (decide_eq_false (by omega))
  refine Sk rfl rfl hb161 rfl (Sk rfl rfl hb161 rfl (Sk rfl rfl hb161 rfl (Sk rfl rfl hb161 rfl (Sk rfl rfl hb161 rfl (Sk rfl rfl hb161 rfl (WL.valG (v := .bool false) rfl rfl (congrArg not h160) rfl (Yl.pickF rfl hb161 rfl) (WL.val (v := .bool false) rfl (Yl.pickF rfl (congrArg not h160) rfl) (WL.nil (Fin.then (Wp.cond0 rfl rfl (Wp.skip (Fin.blockN (Fin.then (Wp.region (WL.val (v := .int .i64 ((k132 + 1 : Nat) : Int)) rfl (Yl.int (e := IntKind.i64.wrap (((k132 : Nat) : Int) + 1)) (Yl.kern rfl rfl (fun _ => by kernel_rfl)) (by rw [IntWalk.i64_in _ (by omega)]; omega)) (Mv rfl rfl (WL.nil ?_)))))))))))))))))
  have H162 := H159.pick [1, 2] (by decide) rfl
  exact Fin.round (k132 + 1) ⟨rfl, rfl, rfl, rfl, rfl, rfl, rfl, rfl, rfl, rfl, rfl, rfl, rfl, rfl, rfl, rfl, rfl, rfl, rfl, trivial⟩ ⟨H162, (show (k132 + 1) ≤ x112.ls.length ∧ r13_Check_L3 k103 r122 x112.ls = r13_Check_L3 k103 r122 (List.drop (k132 + 1) x112.ls) from ⟨by omega, Eq.trans (hq138) (Eq.trans (congrArg (fun q => r13_Check_L3 k103 r122 q) hd143) (Eq.trans (if_pos h149) (Eq.trans (bnd_of hr156) (if_pos h160))))⟩)⟩ (by show x112.ls.length - (k132 + 1) < x112.ls.length - k132; omega)
  refine Sk rfl rfl (congrArg not h160) rfl (Sk rfl rfl (congrArg not h160) rfl (Sk rfl rfl (congrArg not h160) rfl (Sk rfl rfl (congrArg not h160) rfl (Sk rfl rfl (congrArg not h160) rfl (WL.skipU rfl rfl rfl (WL.skipU rfl rfl rfl (WL.skipU rfl rfl rfl (WL.skipU rfl rfl rfl (WL.skipU rfl rfl rfl (WL.skipU rfl rfl rfl (Sk rfl rfl (congrArg not h160) rfl (WL.val (v := .bool true) rfl (Yl.pickT rfl (congrArg not h160) rfl) (WL.nil (Fin.then (Wp.cond1 rfl rfl (Wp.seq (Wp.region (As rfl rfl (WL.nil (Fin.then (Wp.ret (Fin.blockR (Fin.thenR (Fin.thenR (Fin.blockR (Fin.blockR (Fin.thenR (Fin.thenR (Fin.blockR (Fin.thenR (Fin.res (res1 rfl rfl) ?_)))))))))))))))))))))))))))))))
  have H163 := H159.pick [] (by decide) rfl
  have e : r13_Check p0 = 130 := Eq.trans (ifF h24) (Eq.trans (if_neg h38) (Eq.trans (if_neg h40) (Eq.trans (if_neg h42) (Eq.trans (if_pos h44) (Eq.trans (if_pos h45) (Eq.trans (lp_l hL63) (Eq.trans (bnd_of hr70) (Eq.trans (if_pos h74) (Eq.trans (lp_l hL102) (lp_r (Eq.trans (hq109) (Eq.trans (congrArg (fun q => r13_Check_L2 p0 q k103) hd116) (Eq.trans (bnd_of hr123) (lpS_r (Eq.trans (hq138) (Eq.trans (congrArg (fun q => r13_Check_L3 k103 r122 q) hd143) (Eq.trans (if_pos h149) (Eq.trans (bnd_of hr156) (ifF h160)))))))))))))))))))
  obtain rfl := e.symm.trans hr
  exact ⟨rfl, H163, (by first | exact .inl (by omega) | exact .inr (.inl (by assumption)) | exact .inr (.inr (by omega)) | assumption)⟩
  refine Sk rfl rfl (decide_eq_false h149) rfl (Sk rfl rfl (decide_eq_false h149) rfl (Sk rfl rfl (decide_eq_false h149) rfl (Sk rfl rfl (decide_eq_false h149) rfl (Sk rfl rfl (decide_eq_false h149) rfl (Sk rfl rfl (decide_eq_false h149) rfl (Sk rfl rfl (decide_eq_false h149) rfl (Sk rfl rfl (decide_eq_false h149) rfl (Sk rfl rfl (decide_eq_false h149) rfl (Sk rfl rfl (decide_eq_false h149) rfl (WL.val (v := .bool false) rfl (Yl.pickF rfl (decide_eq_false h149) rfl) (Mv rfl rfl (WL.valG (v := .pointer (some ⟨g144, 1, none⟩)) rfl rfl rfl rfl (Yl.kern rfl rfl (fun _ => by kernel_rfl)) (WL.valG (v := .pointer (some ⟨g144, 1, none⟩)) rfl rfl rfl rfl (Yl.kern rfl rfl (fun _ => by kernel_rfl)) (WL.valG (v := .int .i64 x141.xOp.xKind) rfl rfl rfl rfl (Yl.load rfl (Lds.one Tryz.isAgg3 (Cls.of (H148.cls (i := 0) rfl) rfl))) (WL.valG (v := .bool (decide (¬ (x141.xOp.xKind = 5)))) rfl rfl rfl rfl (Yl.bool (e := !(decide (x141.xOp.xKind = 5))) (Yl.kern rfl rfl (fun _ => by kernel_rfl)) decide_not.symm) (WL.valG (v := .bool (decide (¬ (x141.xOp.xKind = 5)))) rfl rfl rfl rfl (Yl.move rfl) ?_))))))))))))))))
  have hb164 : (decide (¬ (x141.xOp.xKind = 5))) = true := (decide_eq_true (by omega))
  refine WL.valG (v := .agg (RangeD.cells r122).toArray) rfl rfl hb164 rfl (Yl.load rfl (Lds.agg (cs := (RangeD.cells r122)) Tryz.isAgg55 Tryz.sizeOf55 ((H148.cls (i := 1) rfl).lit (k := 0) (m := 2) rfl))) (WL.valG (v := .pointer (some ⟨g144, 1, none⟩)) rfl rfl hb164 rfl (Yl.kern rfl rfl (fun _ => by kernel_rfl)) (WL.valG (v := .pointer (some ⟨g144, 2, none⟩)) rfl rfl hb164 rfl (Yl.kern rfl rfl (fun _ => by kernel_rfl)) (WL.valG (v := .string ⟨List.toArray x141.xOp.xKey⟩) rfl rfl hb164 rfl (Yl.load rfl (Lds.one Tryz.isAgg9 (Cls.of (H148.cls (i := 0) rfl) rfl))) ?_)))
  obtain ⟨r170, hr171⟩ : ∃ q, r02_Has r122 x141.xOp.xKey = q := ⟨_, rfl⟩
  obtain ⟨D165, HP166, ro167, bk168, rr169⟩ := Own.enter0 H148
  refine WL.doG rfl rfl hb164 rfl (Do.call Tryz.call28 rfl (r02_Has_ok _ _ r122 x141.xOp.xKey r170 HP166 hr171) ?_)
  rintro _ w172 ⟨rfl, HQ173⟩
  have H174 := bk168 _ _ HQ173
  refine WL.valG (v := .bool (!r170)) rfl rfl hb164 rfl (Yl.kern rfl rfl (fun _ => by kernel_rfl)) (WL.valG (v := .bool (!r170)) rfl rfl rfl rfl (Yl.pickT rfl hb164 rfl) (WL.val (v := .bool (!r170)) rfl (Yl.pickF rfl rfl rfl) (WL.nil (Fin.then ?_))))
  rcases Bool.eq_false_or_eq_true (r170) with h175 | h175
  refine Wp.cond0 rfl (congrArg not h175) (Wp.skip (Fin.blockN (Fin.then (Wp.region (WL.val (v := .int .i64 ((k132 + 1 : Nat) : Int)) rfl (Yl.int (e := IntKind.i64.wrap (((k132 : Nat) : Int) + 1)) (Yl.kern rfl rfl (fun _ => by kernel_rfl)) (by rw [IntWalk.i64_in _ (by omega)]; omega)) (Mv rfl rfl (WL.nil ?_)))))))
  have H176 := H174.pick [1, 2] (by decide) rfl
  exact Fin.round (k132 + 1) ⟨rfl, rfl, rfl, rfl, rfl, rfl, rfl, rfl, rfl, rfl, rfl, rfl, rfl, rfl, rfl, rfl, rfl, rfl, rfl, trivial⟩ ⟨H176, (show (k132 + 1) ≤ x112.ls.length ∧ r13_Check_L3 k103 r122 x112.ls = r13_Check_L3 k103 r122 (List.drop (k132 + 1) x112.ls) from ⟨by omega, Eq.trans (hq138) (Eq.trans (congrArg (fun q => r13_Check_L3 k103 r122 q) hd143) (Eq.trans (if_neg h149) (Eq.trans (bnd_of hr171) (if_pos h175))))⟩)⟩ (by show x112.ls.length - (k132 + 1) < x112.ls.length - k132; omega)
  refine Wp.cond1 rfl (congrArg not h175) (Wp.seq (Wp.region (As rfl rfl (WL.nil (Fin.then (Wp.ret (Fin.blockR (Fin.thenR (Fin.thenR (Fin.blockR (Fin.blockR (Fin.thenR (Fin.thenR (Fin.blockR (Fin.thenR (Fin.res (res1 rfl rfl) ?_))))))))))))))))
  have H177 := H174.pick [] (by decide) rfl
  have e : r13_Check p0 = 130 := Eq.trans (ifF h24) (Eq.trans (if_neg h38) (Eq.trans (if_neg h40) (Eq.trans (if_neg h42) (Eq.trans (if_pos h44) (Eq.trans (if_pos h45) (Eq.trans (lp_l hL63) (Eq.trans (bnd_of hr70) (Eq.trans (if_pos h74) (Eq.trans (lp_l hL102) (lp_r (Eq.trans (hq109) (Eq.trans (congrArg (fun q => r13_Check_L2 p0 q k103) hd116) (Eq.trans (bnd_of hr123) (lpS_r (Eq.trans (hq138) (Eq.trans (congrArg (fun q => r13_Check_L3 k103 r122 q) hd143) (Eq.trans (if_neg h149) (Eq.trans (bnd_of hr171) (ifF h175)))))))))))))))))))
  obtain rfl := e.symm.trans hr
  exact ⟨rfl, H177, (by first | exact .inl (by omega) | exact .inr (.inl (by assumption)) | exact .inr (.inr (by omega)) | assumption)⟩
  refine Wp.cond0 rfl (decide_eq_false h140) (Wp.exit (Fin.thenX ?_))
  have hL178 : r13_Check_L3 k103 r122 x112.ls = Sum.inl () := Eq.trans (hq138) (Eq.trans (congrArg (fun q => r13_Check_L3 k103 r122 q) (drop_end (ls := x112.ls) (i := k132) (by omega))) rfl)
  refine Fin.thenX (Fin.blockX (Fin.blockN (Fin.then (Wp.region (WL.val (v := .int .i64 ((k103 + 1 : Nat) : Int)) rfl (Yl.int (e := IntKind.i64.wrap (((k103 : Nat) : Int) + 1)) (Yl.kern rfl rfl (fun _ => by kernel_rfl)) (by rw [IntWalk.i64_in _ (by omega)]; omega)) (Mv rfl rfl (WL.nil ?_)))))))
  have H179 := H136.pick [1] (by decide) rfl
  exact Fin.round (k103 + 1) ⟨rfl, rfl, rfl, rfl, rfl, trivial⟩ ⟨H179, (show (k103 + 1) ≤ p0.xBuffers.ls.length ∧ r13_Check_L2 p0 p0.xBuffers.ls 0 = r13_Check_L2 p0 (List.drop (k103 + 1) p0.xBuffers.ls) (k103 + 1) from ⟨by omega, Eq.trans (hq109) (Eq.trans (congrArg (fun q => r13_Check_L2 p0 q k103) hd116) (Eq.trans (bnd_of hr123) (lpS_l hL178)))⟩)⟩ (by show p0.xBuffers.ls.length - (k103 + 1) < p0.xBuffers.ls.length - k103; omega)
  refine Wp.cond0 rfl (decide_eq_false h111) (Wp.exit (Fin.thenX ?_))
  have hL180 : r13_Check_L2 p0 p0.xBuffers.ls 0 = Sum.inl () := Eq.trans (hq109) (Eq.trans (congrArg (fun q => r13_Check_L2 p0 q k103) (drop_end (ls := p0.xBuffers.ls) (i := k103) (by omega))) rfl)
  refine Fin.thenX (Fin.blockX (Fin.then (Wp.seq (Wp.region (As rfl rfl (WL.nil (Fin.then (Wp.ret (Fin.res (res1 rfl rfl) ?_)))))))))
  have H181 := H107.pick [] (by decide) rfl
  have e : r13_Check p0 = 0 := Eq.trans (ifF h24) (Eq.trans (if_neg h38) (Eq.trans (if_neg h40) (Eq.trans (if_neg h42) (Eq.trans (if_pos h44) (Eq.trans (if_pos h45) (Eq.trans (lp_l hL63) (Eq.trans (bnd_of hr70) (Eq.trans (if_pos h74) (Eq.trans (lp_l hL102) (lp_l hL180))))))))))
  obtain rfl := e.symm.trans hr
  exact ⟨rfl, H181, (by first | exact .inl (by omega) | exact .inr (.inl (by assumption)) | exact .inr (.inr (by omega)) | assumption)⟩
  refine Wp.cond1 rfl (decide_eq_true h74) (Wp.seq (Wp.region (As rfl rfl (WL.nil (Fin.then (Wp.ret (Fin.thenR (Fin.res (res1 rfl rfl) ?_))))))))
  have H182 := H73.pick [] (by decide) rfl
  have e : r13_Check p0 = 130 := Eq.trans (ifF h24) (Eq.trans (if_neg h38) (Eq.trans (if_neg h40) (Eq.trans (if_neg h42) (Eq.trans (if_pos h44) (Eq.trans (if_pos h45) (Eq.trans (lp_l hL63) (Eq.trans (bnd_of hr70) (if_neg h74))))))))
  obtain rfl := e.symm.trans hr
  exact ⟨rfl, H182, (by first | exact .inl (by omega) | exact .inr (.inl (by assumption)) | exact .inr (.inr (by omega)) | assumption)⟩
  refine Wp.cond1 rfl (decide_eq_true h45) (Wp.seq (Wp.region (As rfl rfl (WL.nil (Fin.then (Wp.ret (Fin.thenR (Fin.res (res1 rfl rfl) ?_))))))))
  have H183 := H23.pick [] (by decide) rfl
  have e : r13_Check p0 = 130 := Eq.trans (ifF h24) (Eq.trans (if_neg h38) (Eq.trans (if_neg h40) (Eq.trans (if_neg h42) (Eq.trans (if_pos h44) (if_neg h45)))))
  obtain rfl := e.symm.trans hr
  exact ⟨rfl, H183, (by first | exact .inl (by omega) | exact .inr (.inl (by assumption)) | exact .inr (.inr (by omega)) | assumption)⟩
  refine Sk rfl rfl (decide_eq_true h44) rfl (Sk rfl rfl (decide_eq_true h44) rfl (Sk rfl rfl (decide_eq_true h44) rfl (Sk rfl rfl (decide_eq_true h44) rfl (Sk rfl rfl (decide_eq_true h44) rfl (Sk rfl rfl (decide_eq_true h44) rfl (Sk rfl rfl (decide_eq_true h44) rfl (WL.val (v := .bool true) rfl (Yl.pickT rfl (decide_eq_true h44) rfl) (WL.nil (Fin.then (Wp.cond1 rfl rfl (Wp.seq (Wp.region (As rfl rfl (WL.nil (Fin.then (Wp.ret (Fin.thenR (Fin.res (res1 rfl rfl) ?_))))))))))))))))))
  have H184 := H23.pick [] (by decide) rfl
  have e : r13_Check p0 = 130 := Eq.trans (ifF h24) (Eq.trans (if_neg h38) (Eq.trans (if_neg h40) (Eq.trans (if_neg h42) (if_neg h44))))
  obtain rfl := e.symm.trans hr
  exact ⟨rfl, H184, (by first | exact .inl (by omega) | exact .inr (.inl (by assumption)) | exact .inr (.inr (by omega)) | assumption)⟩

end Go.Proofs.YtfkkipmdnjfocaaGreat
