/-
  node: nodes of bytes.
-/
import Derived.Test.YtfkkipmdnjfocaaGreatDb
namespace Go.Proofs.YtfkkipmdnjfocaaGreat
open Go.RowKit
set_option linter.unusedVariables false
set_option linter.unusedSectionVars false
set_option linter.unusedSimpArgs false

def octet_numLen_L0 : List UInt8 → Nat → Unit ⊕ Int
  | [], k21 => Sum.inl ()
  | x31 :: q22, k21 => if ((k21 : Nat) : Int) = 10 then Sum.inr (0) else if ((x31.toNat : Nat) : Int) < 128 then Sum.inr ((k21 + 1 : Nat) : Int) else octet_numLen_L0 q22 (k21 + 1)

def octet_numLen (l0 : List UInt8) : Int :=
  lp (octet_numLen_L0 l0 0) fun _ => 0

set_option maxRecDepth 100000 in
theorem octet_numLen_ok (w : World) (D : Nat → Prop) (A0 : Option Addr) (n0 c0 : Nat) (l0 : List UInt8) (r0 : Int) (H : Own w D w []) (hx0 : Ro w D fun w' => Rds w' 1 A0 n0 (List.flatMap eB l0)) (hn0 : n0 = l0.length) (hl0 : l0.length ≤ 9223372036854775807) (hr : octet_numLen l0 = r0) :
    Calls Tryz.prog 93 #[.slice A0 n0 c0] w (Ret fun v w' => v = .int .i64 r0 ∧ Own w D w' [] ∧ (0 ≤ r0 ∧ r0 ≤ 10 ∧ r0 ≤ ((l0.length : Nat) : Int))) := by
  subst hn0
  refine Calls.body (args := [.slice A0 l0.length c0]) Tryz.func93 rfl rfl rfl ?_
  show Wp _ _ _ [(0, .slice A0 l0.length c0)] _ _
  refine Wp.seq (Wp.region (As rfl rfl (WL.nil (Fin.then (Wp.seq (Wp.seq (Wp.region (Mv rfl rfl (Kn (v := .int .i64 ((l0.length : Nat) : Int)) rfl rfl rfl (fun _ => by kernel_rfl) (Mv rfl rfl (WL.nil (Fin.then (Wp.block ?_)))))))))))))
  have H23 : Own w D w [] := H.pick [] (by decide) rfl
  refine Wp.loop (ι := Nat) (fun i => [(2, .int .i64 0), (7, .int .i64 ((i : Nat) : Int)), (6, .int .i64 ((l0.length : Nat) : Int)), (5, .slice A0 l0.length c0)]) (fun (i : Nat) w' => Own w D w' [] ∧ (i ≤ l0.length ∧ i ≤ 10 ∧ octet_numLen_L0 l0 0 = octet_numLen_L0 (List.drop i l0) i)) (fun i => l0.length - i) 0 ⟨rfl, rfl, rfl, rfl, trivial⟩ ⟨H23, (show 0 ≤ l0.length ∧ 0 ≤ 10 ∧ octet_numLen_L0 l0 0 = octet_numLen_L0 (List.drop 0 l0) 0 from ⟨by omega, by omega, rfl⟩)⟩ ?_
  rintro k21 w24 ⟨H25, hf26⟩
  show Wp _ _ _ [(2, .int .i64 0), (7, .int .i64 ((k21 : Nat) : Int)), (6, .int .i64 ((l0.length : Nat) : Int)), (5, .slice A0 l0.length c0)] _ _
  replace hf26 : k21 ≤ l0.length ∧ k21 ≤ 10 ∧ octet_numLen_L0 l0 0 = octet_numLen_L0 (List.drop k21 l0) k21 := hf26
  obtain ⟨hi28, hi29, hq27⟩ := hf26
  refine Wp.seq (Wp.region (Kn (v := .bool (decide (((k21 : Nat) : Int) < ((l0.length : Nat) : Int)))) rfl rfl rfl (fun _ => by kernel_rfl) (WL.nil (Fin.then (Wp.seq ?_)))))
  by_cases h30 : ((k21 : Nat) : Int) < ((l0.length : Nat) : Int)
  obtain ⟨x31, hx32⟩ := rds_at (ls := l0) (i := k21) eB_len (by decide) (H25.ro hx0) (by first | omega | (simp; done) | (simp; omega))
  have hd33 := drop_at hx32
  refine Wp.cond1 rfl (decide_eq_true h30) (Wp.skip (Fin.then (Wp.seq (Wp.block (Wp.seq (Wp.region (Mv rfl rfl (WL.val (v := .pointer (some ⟨ab A0, ao A0 + k21 * 1, none⟩)) rfl (Yl.indexAddr (El29) rfl rfl ((H25.ro hx0).addr (i := k21) (by omega)) (by omega)) (WL.val (v := .int .u8 ((x31.toNat : Nat) : Int)) rfl (Yl.load rfl (Lds.one Tryz.isAgg5 (((H25.ro hx0).elem eB_len hx32 (by decide)).at_ (k := 0) rfl))) (As rfl rfl (As rfl rfl (WL.nil (Fin.then (Wp.seq (Wp.seq (Wp.region (Mv rfl rfl (Kn (v := .bool (decide (((k21 : Nat) : Int) = 10))) rfl rfl rfl (fun _ => by kernel_rfl) (WL.nil (Fin.then ?_))))))))))))))))))))
  by_cases h34 : ((k21 : Nat) : Int) = 10
  refine Wp.cond1 rfl (decide_eq_true h34) (Wp.seq (Wp.region (As rfl rfl (WL.nil (Fin.then (Wp.ret (Fin.thenR (Fin.blockR (Fin.thenR (Fin.thenR (Fin.blockR (Fin.thenR (Fin.res (res1 rfl rfl) ?_)))))))))))))
  have H35 := H25.pick [] (by decide) rfl
  have e : octet_numLen l0 = 0 := lp_r (Eq.trans (hq27) (Eq.trans (congrArg (fun q => octet_numLen_L0 q k21) hd33) (if_pos h34)))
  obtain rfl := e.symm.trans hr
  exact ⟨rfl, H35, (by omega)⟩
  refine Wp.cond0 rfl (decide_eq_false h34) (Wp.skip (Fin.then (Wp.seq (Wp.region (Mv rfl rfl (Kn (v := .bool (decide (((x31.toNat : Nat) : Int) < 128))) rfl rfl rfl (fun _ => by kernel_rfl) (WL.nil (Fin.then ?_))))))))
  by_cases h36 : ((x31.toNat : Nat) : Int) < 128
  refine Wp.cond1 rfl (decide_eq_true h36) (Wp.seq (Wp.region (Mv rfl rfl (WL.val (v := .int .i64 ((k21 + 1 : Nat) : Int)) rfl (Yl.int (e := IntKind.i64.wrap (((k21 : Nat) : Int) + 1)) (Yl.kern rfl rfl (fun _ => by kernel_rfl)) (by rw [IntWalk.i64_in _ (by omega)]; omega)) (As rfl rfl (WL.nil (Fin.then (Wp.ret (Fin.blockR (Fin.thenR (Fin.thenR (Fin.blockR (Fin.thenR (Fin.res (res1 rfl rfl) ?_))))))))))))))
  have H37 := H25.pick [] (by decide) rfl
  have e : octet_numLen l0 = ((k21 + 1 : Nat) : Int) := lp_r (Eq.trans (hq27) (Eq.trans (congrArg (fun q => octet_numLen_L0 q k21) hd33) (Eq.trans (if_neg h34) (if_pos h36))))
  obtain rfl := e.symm.trans hr
  exact ⟨rfl, H37, (by omega)⟩
  refine Wp.cond0 rfl (decide_eq_false h36) (Wp.skip (Fin.blockN (Fin.then (Wp.region (WL.val (v := .int .i64 ((k21 + 1 : Nat) : Int)) rfl (Yl.int (e := IntKind.i64.wrap (((k21 : Nat) : Int) + 1)) (Yl.kern rfl rfl (fun _ => by kernel_rfl)) (by rw [IntWalk.i64_in _ (by omega)]; omega)) (Mv rfl rfl (WL.nil ?_)))))))
  have H38 := H25.pick [] (by decide) rfl
  exact Fin.round (k21 + 1) ⟨rfl, rfl, rfl, rfl, trivial⟩ ⟨H38, (show (k21 + 1) ≤ l0.length ∧ (k21 + 1) ≤ 10 ∧ octet_numLen_L0 l0 0 = octet_numLen_L0 (List.drop (k21 + 1) l0) (k21 + 1) from ⟨by omega, by omega, Eq.trans (hq27) (Eq.trans (congrArg (fun q => octet_numLen_L0 q k21) hd33) (Eq.trans (if_neg h34) (if_neg h36)))⟩)⟩ (by show l0.length - (k21 + 1) < l0.length - k21; omega)
  refine Wp.cond0 rfl (decide_eq_false h30) (Wp.exit (Fin.thenX ?_))
  have hL39 : octet_numLen_L0 l0 0 = Sum.inl () := Eq.trans (hq27) (Eq.trans (congrArg (fun q => octet_numLen_L0 q k21) (drop_end (ls := l0) (i := k21) (by omega))) rfl)
  refine Fin.thenX (Fin.blockX (Fin.then (Wp.seq (Wp.region (As rfl rfl (WL.nil (Fin.then (Wp.ret (Fin.res (res1 rfl rfl) ?_)))))))))
  have H40 := H25.pick [] (by decide) rfl
  have e : octet_numLen l0 = 0 := lp_l hL39
  obtain rfl := e.symm.trans hr
  exact ⟨rfl, H40, (by omega)⟩

def octet_ReadNum_L0 (l0 : List UInt8) (r26 : Int) : Nat → Nat → Nat → Nat
  | 0, k53, k54 => k53
  | q55 + 1, k53, k54 => bnd (List.getD (List.take (Int.toNat r26) l0) k54 default) fun yx64 => octet_ReadNum_L0 l0 r26 q55 (bOr64 k53 (bShl64 ((yx64 &&& (127 : UInt8)).toNat) (7 * k54))) (k54 + 1)

def octet_ReadNum (l0 : List UInt8) : Nat × Int × Int :=
  bnd (octet_numLen l0) fun yr26 => if yr26 = 0 then if ((l0.length : Nat) : Int) ≥ 10 then (0, 0, 11) else (0, 0, 10) else bnd (List.getD l0 (Int.toNat (yr26 - 1)) default) fun yx36 => bnd (if yr26 > 1 then if ((yx36.toNat : Nat) : Int) = 0 then true else if yr26 = 10 then decide (((yx36.toNat : Nat) : Int) > 1) else false else false) fun sJrbfbJ => if sJrbfbJ = true then (0, 0, 11) else bnd (octet_ReadNum_L0 l0 yr26 (Int.toNat yr26) 0 0) fun sLrbfbJafL => (sLrbfbJafL, yr26, 0)

set_option maxRecDepth 100000 in
theorem octet_ReadNum_ok (w : World) (D : Nat → Prop) (A0 : Option Addr) (n0 c0 : Nat) (l0 : List UInt8) (r0 : Nat) (r1 : Int) (r2 : Int) (H : Own w D w []) (hx0 : Ro w D fun w' => Rds w' 1 A0 n0 (List.flatMap eB l0)) (hn0 : n0 = l0.length) (hl0 : l0.length ≤ 9223372036854775807) (hq0 : l0.length ≤ c0) (hr : octet_ReadNum l0 = (r0, r1, r2)) :
    Calls Tryz.prog 84 #[.slice A0 n0 c0] w (Ret fun v w' => v = .tuple #[.int .u64 ((r0 : Nat) : Int), .int .i64 r1, .int .i64 r2] ∧ Own w D w' [] ∧ (¬ (r2 = 0) ∨ (1 ≤ r1 ∧ r1 ≤ 10 ∧ r1 ≤ ((l0.length : Nat) : Int))) ∧ (r0 ≤ 18446744073709551615)) := by
  subst hn0
  refine Calls.body (args := [.slice A0 l0.length c0]) Tryz.func84 rfl rfl rfl ?_
  show Wp _ _ _ [(0, .slice A0 l0.length c0)] _ _
  refine Wp.seq (Wp.region (As rfl rfl (As rfl rfl (As rfl rfl (WL.nil (Fin.then (Wp.seq (Wp.region (Mv rfl rfl ?_)))))))))
  obtain ⟨r26, hr27⟩ : ∃ q, octet_numLen l0 = q := ⟨_, rfl⟩
  obtain ⟨D21, HP22, ro23, bk24, rr25⟩ := Own.enter0 H
  refine WL.do rfl (Do.call Tryz.call93 rfl (octet_numLen_ok _ _ A0 l0.length c0 l0 r26 HP22 (ro23 _ hx0) rfl (by omega) hr27) ?_)
  rintro _ w28 ⟨rfl, HQ29, hk31⟩
  have H30 := bk24 _ _ HQ29
  replace hk31 : 0 ≤ r26 ∧ r26 ≤ 10 ∧ r26 ≤ ((l0.length : Nat) : Int) := hk31
  refine As rfl rfl (WL.nil (Fin.then (Wp.seq (Wp.seq (Wp.region (Mv rfl rfl (Kn (v := .bool (decide (r26 = 0))) rfl rfl rfl (fun _ => by kernel_rfl) (WL.nil (Fin.then ?_)))))))))
  by_cases h32 : r26 = 0
  refine Wp.cond1 rfl (decide_eq_true h32) (Wp.seq (Wp.seq (Wp.region (Mv rfl rfl (Kn (v := .int .i64 ((l0.length : Nat) : Int)) rfl rfl rfl (fun _ => by kernel_rfl) (Kn (v := .bool (decide (((l0.length : Nat) : Int) ≥ 10))) rfl rfl rfl (fun _ => by kernel_rfl) (WL.nil (Fin.then ?_))))))))
  by_cases h33 : ((l0.length : Nat) : Int) ≥ 10
  refine Wp.cond1 rfl (decide_eq_true h33) (Wp.seq (Wp.region (As rfl rfl (As rfl rfl (As rfl rfl (WL.nil (Fin.then (Wp.ret (Fin.thenR (Fin.thenR (Fin.res (res3 rfl rfl rfl rfl) ?_)))))))))))
  have H34 := H30.pick [] (by decide) rfl
  have e : octet_ReadNum l0 = (0, 0, 11) := Eq.trans (bnd_of hr27) (Eq.trans (if_pos h32) (if_pos h33))
  obtain ⟨rfl, rfl, rfl⟩ := pj3 (e.symm.trans hr)
  exact ⟨rfl, H34, (by omega), (by omega)⟩
  refine Wp.cond0 rfl (decide_eq_false h33) (Wp.skip (Fin.then (Wp.seq (Wp.region (As rfl rfl (As rfl rfl (As rfl rfl (WL.nil (Fin.then (Wp.ret (Fin.thenR (Fin.res (res3 rfl rfl rfl rfl) ?_))))))))))))
  have H35 := H30.pick [] (by decide) rfl
  have e : octet_ReadNum l0 = (0, 0, 10) := Eq.trans (bnd_of hr27) (Eq.trans (if_pos h32) (if_neg h33))
  obtain ⟨rfl, rfl, rfl⟩ := pj3 (e.symm.trans hr)
  exact ⟨rfl, H35, (by omega), (by omega)⟩
  refine Wp.cond0 rfl (decide_eq_false h32) (Wp.skip (Fin.then (Wp.seq (Wp.region (Mv rfl rfl (Mv rfl rfl (WL.val (v := .int .i64 ((Int.toNat (r26 - 1) : Nat) : Int)) rfl (Yl.int (e := IntKind.i64.wrap (r26 - 1)) (Yl.kern rfl rfl (fun _ => by kernel_rfl)) (by rw [IntWalk.i64_in _ (by omega)]; omega)) ?_)))))))
  obtain ⟨x36, hx37⟩ := rds_at (ls := l0) (i := Int.toNat (r26 - 1)) eB_len (by decide) (H30.ro hx0) (by first | omega | (simp; done) | (simp; omega))
  refine WL.val (v := .pointer (some ⟨ab A0, ao A0 + (Int.toNat (r26 - 1)) * 1, none⟩)) rfl (Yl.indexAddr (El29) rfl rfl ((H30.ro hx0).addr (i := Int.toNat (r26 - 1)) (by omega)) (by omega)) (WL.val (v := .int .u8 ((x36.toNat : Nat) : Int)) rfl (Yl.load rfl (Lds.one Tryz.isAgg5 (((H30.ro hx0).elem eB_len hx37 (by decide)).at_ (k := 0) rfl))) (As rfl rfl (WL.nil (Fin.then (Wp.seq (Wp.seq ?_))))))
  refine Wp.joinT (ι := Bool) (fun i => [(35, .bool i), (5, .int .i64 r26), (4, .int .i64 0), (3, .int .i64 0), (2, .int .u64 0), (0, .slice A0 l0.length c0)]) (fun (i : Bool) w' => Own w D w' [] ∧ ((if r26 > 1 then if ((x36.toNat : Nat) : Int) = 0 then true else if r26 = 10 then decide (((x36.toNat : Nat) : Int) > 1) else false else false) = i)) ?_ ?_
  refine Wp.region (Mv rfl rfl (Kn (v := .bool (decide (r26 > 1))) rfl rfl rfl (fun _ => by kernel_rfl) (Mv rfl rfl ?_)))
  by_cases h39 : r26 > 1
  refine WL.valG (v := .int .u8 ((x36.toNat : Nat) : Int)) rfl rfl (decide_eq_true h39) rfl (Yl.move rfl) (WL.valG (v := .bool (decide (((x36.toNat : Nat) : Int) = 0))) rfl rfl (decide_eq_true h39) rfl (Yl.kern rfl rfl (fun _ => by kernel_rfl)) (WL.val (v := .bool (decide (((x36.toNat : Nat) : Int) = 0))) rfl (Yl.pickT rfl (decide_eq_true h39) rfl) (Mv rfl rfl ?_)))
  by_cases h40 : ((x36.toNat : Nat) : Int) = 0
  refine Sk rfl rfl (decide_eq_true h40) rfl (Sk rfl rfl (decide_eq_true h40) rfl (Sk rfl rfl (decide_eq_true h40) rfl (WL.skipU rfl rfl rfl (WL.skipU rfl rfl rfl (Sk rfl rfl (decide_eq_true h40) rfl (WL.val (v := .bool true) rfl (Yl.pickT rfl (decide_eq_true h40) rfl) (WL.nil ?_)))))))
  have H41 := H30.pick [] (by decide) rfl
  exact Fin.join true ⟨rfl, rfl, rfl, rfl, rfl, rfl, trivial⟩ ⟨H41, (show (if r26 > 1 then if ((x36.toNat : Nat) : Int) = 0 then true else if r26 = 10 then decide (((x36.toNat : Nat) : Int) > 1) else false else false) = true from Eq.trans (if_pos h39) (if_pos h40))⟩
  refine WL.valG (v := .int .i64 r26) rfl rfl (decide_eq_false h40) rfl (Yl.move rfl) (WL.valG (v := .bool (decide (r26 = 10))) rfl rfl (decide_eq_false h40) rfl (Yl.kern rfl rfl (fun _ => by kernel_rfl)) (WL.valG (v := .bool (decide (r26 = 10))) rfl rfl (decide_eq_false h40) rfl (Yl.move rfl) ?_))
  by_cases h42 : r26 = 10
  refine WL.valG (v := .int .u8 ((x36.toNat : Nat) : Int)) rfl rfl (decide_eq_true h42) rfl (Yl.move rfl) (WL.valG (v := .bool (decide (((x36.toNat : Nat) : Int) > 1))) rfl rfl (decide_eq_true h42) rfl (Yl.kern rfl rfl (fun _ => by kernel_rfl)) (WL.valG (v := .bool (decide (((x36.toNat : Nat) : Int) > 1))) rfl rfl (decide_eq_false h40) rfl (Yl.pickT rfl (decide_eq_true h42) rfl) (WL.val (v := .bool (decide (((x36.toNat : Nat) : Int) > 1))) rfl (Yl.pickF rfl (decide_eq_false h40) rfl) (WL.nil ?_))))
  have H43 := H30.pick [] (by decide) rfl
  exact Fin.join (decide (((x36.toNat : Nat) : Int) > 1)) ⟨rfl, rfl, rfl, rfl, rfl, rfl, trivial⟩ ⟨H43, (show (if r26 > 1 then if ((x36.toNat : Nat) : Int) = 0 then true else if r26 = 10 then decide (((x36.toNat : Nat) : Int) > 1) else false else false) = (decide (((x36.toNat : Nat) : Int) > 1)) from Eq.trans (if_pos h39) (Eq.trans (if_neg h40) (if_pos h42)))⟩
  refine Sk rfl rfl (decide_eq_false h42) rfl (Sk rfl rfl (decide_eq_false h42) rfl (WL.valG (v := .bool false) rfl rfl (decide_eq_false h40) rfl (Yl.pickF rfl (decide_eq_false h42) rfl) (WL.val (v := .bool false) rfl (Yl.pickF rfl (decide_eq_false h40) rfl) (WL.nil ?_))))
  have H44 := H30.pick [] (by decide) rfl
  exact Fin.join false ⟨rfl, rfl, rfl, rfl, rfl, rfl, trivial⟩ ⟨H44, (show (if r26 > 1 then if ((x36.toNat : Nat) : Int) = 0 then true else if r26 = 10 then decide (((x36.toNat : Nat) : Int) > 1) else false else false) = false from Eq.trans (if_pos h39) (Eq.trans (if_neg h40) (if_neg h42)))⟩
  refine Sk rfl rfl (decide_eq_false h39) rfl (Sk rfl rfl (decide_eq_false h39) rfl (WL.val (v := .bool false) rfl (Yl.pickF rfl (decide_eq_false h39) rfl) (Mv rfl rfl (WL.valG (v := .int .i64 r26) rfl rfl rfl rfl (Yl.move rfl) (WL.valG (v := .bool (decide (r26 = 10))) rfl rfl rfl rfl (Yl.kern rfl rfl (fun _ => by kernel_rfl)) (WL.valG (v := .bool (decide (r26 = 10))) rfl rfl rfl rfl (Yl.move rfl) ?_))))))
  have hb45 : (decide (r26 = 10)) = false := (decide_eq_false (by omega))
  refine Sk rfl rfl hb45 rfl (Sk rfl rfl hb45 rfl (WL.valG (v := .bool false) rfl rfl rfl rfl (Yl.pickF rfl hb45 rfl) (WL.val (v := .bool false) rfl (Yl.pickF rfl rfl rfl) (WL.nil ?_))))
  have H46 := H30.pick [] (by decide) rfl
  exact Fin.join false ⟨rfl, rfl, rfl, rfl, rfl, rfl, trivial⟩ ⟨H46, (show (if r26 > 1 then if ((x36.toNat : Nat) : Int) = 0 then true else if r26 = 10 then decide (((x36.toNat : Nat) : Int) > 1) else false else false) = false from if_neg h39)⟩
  rintro b38 w47 ⟨H48, hf49⟩
  show Wp _ _ _ [(35, .bool b38), (5, .int .i64 r26), (4, .int .i64 0), (3, .int .i64 0), (2, .int .u64 0), (0, .slice A0 l0.length c0)] _ _
  replace hf49 : (if r26 > 1 then if ((x36.toNat : Nat) : Int) = 0 then true else if r26 = 10 then decide (((x36.toNat : Nat) : Int) > 1) else false else false) = b38 := hf49
  have hj50 := hf49
  rcases Bool.eq_false_or_eq_true (b38) with h51 | h51
  refine Wp.cond1 rfl h51 (Wp.seq (Wp.region (As rfl rfl (As rfl rfl (As rfl rfl (WL.nil (Fin.then (Wp.ret (Fin.thenR (Fin.res (res3 rfl rfl rfl rfl) ?_))))))))))
  have H52 := H48.pick [] (by decide) rfl
  have e : octet_ReadNum l0 = (0, 0, 11) := Eq.trans (bnd_of hr27) (Eq.trans (if_neg h32) (Eq.trans (bnd_of (getD_of hx37)) (Eq.trans (bnd_of hj50) (if_pos h51))))
  obtain ⟨rfl, rfl, rfl⟩ := pj3 (e.symm.trans hr)
  exact ⟨rfl, H52, (by omega), (by omega)⟩
  refine Wp.cond0 rfl h51 (Wp.skip (Fin.then (Wp.seq (Wp.region (As rfl rfl (WL.nil (Fin.then (Wp.seq (Wp.seq (Wp.region (Mv rfl rfl (WL.val (v := .int .i64 ((Int.toNat r26 : Nat) : Int)) rfl (Yl.int (e := r26) (Yl.move rfl) (by omega)) (WL.val (v := .slice A0 (Int.toNat r26) c0) rfl (Yl.cutTo (El29) rfl rfl (by omega)) (Kn (v := .int .i64 ((Int.toNat r26 : Nat) : Int)) rfl rfl rfl (fun _ => by kernel_rfl) (Mv rfl rfl (WL.nil (Fin.then (Wp.block ?_))))))))))))))))))
  have H56 := H48.pick [] (by decide) rfl
  refine Wp.loop (ι := Nat × Nat) (fun i => [(7, .int .u64 ((i.1 : Nat) : Int)), (40, .int .i64 ((i.2 : Nat) : Int)), (39, .int .i64 ((Int.toNat r26 : Nat) : Int)), (38, .slice A0 (Int.toNat r26) c0), (5, .int .i64 r26), (4, .int .i64 0), (3, .int .i64 0), (2, .int .u64 0)]) (fun (i : Nat × Nat) w' => Own w D w' [] ∧ (i.2 ≤ Int.toNat r26 ∧ (i.1 ≤ 18446744073709551615 ∧ i.2 ≤ 18446744073709551615) ∧ octet_ReadNum_L0 l0 r26 (Int.toNat r26) 0 0 = octet_ReadNum_L0 l0 r26 ((Int.toNat r26) - i.2) i.1 i.2)) (fun i => (Int.toNat r26) - i.2) (0, 0) ⟨rfl, rfl, rfl, rfl, rfl, rfl, rfl, rfl, trivial⟩ ⟨H56, (show 0 ≤ Int.toNat r26 ∧ (0 ≤ 18446744073709551615 ∧ 0 ≤ 18446744073709551615) ∧ octet_ReadNum_L0 l0 r26 (Int.toNat r26) 0 0 = octet_ReadNum_L0 l0 r26 ((Int.toNat r26) - 0) 0 0 from ⟨by omega, by omega, rfl⟩)⟩ ?_
  rintro ⟨k53, k54⟩ w57 ⟨H58, hf59⟩
  show Wp _ _ _ [(7, .int .u64 ((k53 : Nat) : Int)), (40, .int .i64 ((k54 : Nat) : Int)), (39, .int .i64 ((Int.toNat r26 : Nat) : Int)), (38, .slice A0 (Int.toNat r26) c0), (5, .int .i64 r26), (4, .int .i64 0), (3, .int .i64 0), (2, .int .u64 0)] _ _
  replace hf59 : k54 ≤ Int.toNat r26 ∧ (k53 ≤ 18446744073709551615 ∧ k54 ≤ 18446744073709551615) ∧ octet_ReadNum_L0 l0 r26 (Int.toNat r26) 0 0 = octet_ReadNum_L0 l0 r26 ((Int.toNat r26) - k54) k53 k54 := hf59
  obtain ⟨hi61, hi62, hq60⟩ := hf59
  refine Wp.seq (Wp.region (Kn (v := .bool (decide (((k54 : Nat) : Int) < ((Int.toNat r26 : Nat) : Int)))) rfl rfl rfl (fun _ => by kernel_rfl) (WL.nil (Fin.then (Wp.seq ?_)))))
  by_cases h63 : ((k54 : Nat) : Int) < ((Int.toNat r26 : Nat) : Int)
  refine Wp.cond1 rfl (decide_eq_true h63) (Wp.skip (Fin.then (Wp.seq (Wp.block (Wp.seq (Wp.region (Mv rfl rfl ?_)))))))
  obtain ⟨x64, hx65⟩ := rds_at (ls := (List.take (Int.toNat r26) l0)) (i := k54) eB_len (by decide) (Rds.toE (hi := Int.toNat r26) eB_len (H58.ro hx0) (by omega)) (by first | omega | (simp; done) | (simp; omega))
  refine WL.val (v := .pointer (some ⟨ab A0, ao A0 + k54 * 1, none⟩)) rfl (Yl.indexAddr (El29) rfl rfl ((Rds.toE (hi := Int.toNat r26) eB_len (H58.ro hx0) (by omega)).addr (i := k54) (by omega)) (by omega)) (WL.val (v := .int .u8 ((x64.toNat : Nat) : Int)) rfl (Yl.load rfl (Lds.one Tryz.isAgg5 (((Rds.toE (hi := Int.toNat r26) eB_len (H58.ro hx0) (by omega)).elem eB_len hx65 (by decide)).at_ (k := 0) rfl))) (As rfl rfl (As rfl rfl (WL.nil (Fin.then (Wp.region (Mv rfl rfl (Mv rfl rfl (WL.val (v := .int .u8 (((x64 &&& (127 : UInt8)).toNat : Nat) : Int)) rfl (Yl.int (e := IntKind.u8.wrap (((BitVec.ofInt 8 ((x64.toNat : Nat) : Int) &&& BitVec.ofInt 8 127).toNat : Nat) : Int)) (Yl.kern rfl rfl (fun _ => by kernel_rfl)) (u8_and x64 (127 : UInt8))) ?_)))))))))
  have hz66 : (x64 &&& (127 : UInt8)).toNat ≤ 255 := Nat.le_of_lt_succ (UInt8.toNat_lt _)
  refine WL.val (v := .int .u64 (((x64 &&& (127 : UInt8)).toNat : Nat) : Int)) rfl (Yl.int (e := IntKind.u64.wrap (((x64 &&& (127 : UInt8)).toNat : Nat) : Int)) (Yl.kern rfl rfl (fun _ => by kernel_rfl)) (IntWalk.u64_in _ (by omega))) (Mv rfl rfl (WL.val (v := .int .u64 ((k54 : Nat) : Int)) rfl (Yl.int (e := IntKind.u64.wrap ((k54 : Nat) : Int)) (Yl.kern rfl rfl (fun _ => by kernel_rfl)) (IntWalk.u64_in _ (by omega))) (WL.val (v := .int .u64 ((7 * k54 : Nat) : Int)) rfl (Yl.int (e := IntKind.u64.wrap (7 * ((k54 : Nat) : Int))) (Yl.kern rfl rfl (fun _ => by kernel_rfl)) (by rw [IntWalk.u64_in _ (by omega)]; omega)) ?_)))
  have hz67 : bShl64 ((x64 &&& (127 : UInt8)).toNat) (7 * k54) ≤ 18446744073709551615 := bShl64_le _ _
  refine WL.val (v := .int .u64 ((bShl64 ((x64 &&& (127 : UInt8)).toNat) (7 * k54) : Nat) : Int)) rfl (Yl.int (Yl.shl (m := 7 * k54) rfl rfl) (wrap_nat_u64 _)) ?_
  have hz68 : bOr64 k53 (bShl64 ((x64 &&& (127 : UInt8)).toNat) (7 * k54)) ≤ 18446744073709551615 := bOr64_le _ _
  refine WL.val (v := .int .u64 ((bOr64 k53 (bShl64 ((x64 &&& (127 : UInt8)).toNat) (7 * k54)) : Nat) : Int)) rfl (Yl.int (e := IntKind.u64.wrap (((BitVec.ofInt 64 ((k53 : Nat) : Int) ||| BitVec.ofInt 64 ((bShl64 ((x64 &&& (127 : UInt8)).toNat) (7 * k54) : Nat) : Int)).toNat : Nat) : Int)) (Yl.kern rfl rfl (fun _ => by kernel_rfl)) (wrap_nat_u64 _)) (As rfl rfl (WL.nil (Fin.blockN (Fin.then (Wp.region (WL.val (v := .int .i64 ((k54 + 1 : Nat) : Int)) rfl (Yl.int (e := IntKind.i64.wrap (((k54 : Nat) : Int) + 1)) (Yl.kern rfl rfl (fun _ => by kernel_rfl)) (by rw [IntWalk.i64_in _ (by omega)]; omega)) (Mv rfl rfl (WL.nil ?_))))))))
  have H69 := H58.pick [] (by decide) rfl
  exact Fin.round (bOr64 k53 (bShl64 ((x64 &&& (127 : UInt8)).toNat) (7 * k54)), k54 + 1) ⟨rfl, rfl, rfl, rfl, rfl, rfl, rfl, rfl, trivial⟩ ⟨H69, (show (k54 + 1) ≤ Int.toNat r26 ∧ ((bOr64 k53 (bShl64 ((x64 &&& (127 : UInt8)).toNat) (7 * k54))) ≤ 18446744073709551615 ∧ (k54 + 1) ≤ 18446744073709551615) ∧ octet_ReadNum_L0 l0 r26 (Int.toNat r26) 0 0 = octet_ReadNum_L0 l0 r26 ((Int.toNat r26) - (k54 + 1)) (bOr64 k53 (bShl64 ((x64 &&& (127 : UInt8)).toNat) (7 * k54))) (k54 + 1) from ⟨by omega, by omega, Eq.trans (hq60) (Eq.trans (congrArg (fun q => octet_ReadNum_L0 l0 r26 q k53 k54) (sub_at (n := Int.toNat r26) (i := k54) (by omega))) (bnd_of (getD_of hx65)))⟩)⟩ (by show (Int.toNat r26) - (k54 + 1) < (Int.toNat r26) - k54; omega)
  refine Wp.cond0 rfl (decide_eq_false h63) (Wp.exit (Fin.thenX ?_))
  have hL70 : octet_ReadNum_L0 l0 r26 (Int.toNat r26) 0 0 = k53 := Eq.trans (hq60) (Eq.trans (congrArg (fun q => octet_ReadNum_L0 l0 r26 q k53 k54) (sub_end (n := Int.toNat r26) (i := k54) (by omega))) rfl)
  refine Fin.thenX (Fin.blockX (Fin.then (Wp.seq (Wp.region (Mv rfl rfl (Mv rfl rfl (As rfl rfl (As rfl rfl (As rfl rfl (WL.nil (Fin.then (Wp.ret (Fin.res (res3 rfl rfl rfl rfl) ?_)))))))))))))
  have H71 := H58.pick [] (by decide) rfl
  have e : octet_ReadNum l0 = (k53, r26, 0) := Eq.trans (bnd_of hr27) (Eq.trans (if_neg h32) (Eq.trans (bnd_of (getD_of hx37)) (Eq.trans (bnd_of hj50) (Eq.trans (ifF h51) (bnd_of hL70)))))
  obtain ⟨rfl, rfl, rfl⟩ := pj3 (e.symm.trans hr)
  exact ⟨rfl, H71, (by omega), (by omega)⟩

def octet_ReadText (l0 : List UInt8) (p1 : Int) : (List UInt8) × Int × Int :=
  bnd (octet_ReadNum l0) fun yr26 => if yr26.2.2 = 0 then if p1 < 0 then ([], 0, 2) else if ((yr26.1 : Nat) : Int) > ((Int.toNat (IntKind.u64.wrap p1) : Nat) : Int) then ([], 0, 2) else if ((yr26.1 : Nat) : Int) > ((Int.toNat (((l0.length : Nat) : Int) - yr26.2.1) : Nat) : Int) then ([], 0, 10) else ((List.take ((Int.toNat (yr26.2.1 + ((yr26.1 : Nat) : Int))) - (Int.toNat yr26.2.1)) (List.drop (Int.toNat yr26.2.1) l0)), yr26.2.1 + ((yr26.1 : Nat) : Int), 0) else ([], 0, yr26.2.2)

set_option maxRecDepth 100000 in
theorem octet_ReadText_ok (w : World) (D : Nat → Prop) (A0 : Option Addr) (n0 c0 : Nat) (l0 : List UInt8) (p1 : Int) (r0 : List UInt8) (r1 : Int) (r2 : Int) (H : Own w D w []) (hx0 : Ro w D fun w' => Rds w' 1 A0 n0 (List.flatMap eB l0)) (hn0 : n0 = l0.length) (hl0 : l0.length ≤ 9223372036854775807) (hq0 : l0.length ≤ c0) (hr : octet_ReadText l0 p1 = (r0, r1, r2)) :
    Calls Tryz.prog 94 #[.slice A0 n0 c0, .int .i64 p1] w (Ret fun v w' => v = .tuple #[.string ⟨List.toArray r0⟩, .int .i64 r1, .int .i64 r2] ∧ Own w D w' [] ∧ (¬ (r2 = 0) ∨ (1 ≤ r1 ∧ r1 ≤ ((l0.length : Nat) : Int) ∧ r0.length ≤ l0.length))) := by
  subst hn0
  refine Calls.body (args := [.slice A0 l0.length c0, .int .i64 p1]) Tryz.func94 rfl rfl rfl ?_
  show Wp _ _ _ [(0, .slice A0 l0.length c0), (1, .int .i64 p1)] _ _
  refine Wp.seq (Wp.region (As rfl rfl (As rfl rfl (As rfl rfl (WL.nil (Fin.then (Wp.seq (Wp.region (Mv rfl rfl ?_)))))))))
  obtain ⟨⟨r26, r27, r28⟩, hr29⟩ : ∃ q : Nat × Int × Int, octet_ReadNum l0 = q := ⟨_, rfl⟩
  obtain ⟨D21, HP22, ro23, bk24, rr25⟩ := Own.enter0 H
  refine WL.do rfl (Do.call Tryz.call84 rfl (octet_ReadNum_ok _ _ A0 l0.length c0 l0 r26 r27 r28 HP22 (ro23 _ hx0) rfl (by omega) (by first | omega | (simp only [List.length_take, List.length_drop]; omega)) hr29) ?_)
  rintro _ w30 ⟨rfl, HQ31, hk33, hk34⟩
  have H32 := bk24 _ _ HQ31
  replace hk33 : ¬ (r28 = 0) ∨ (1 ≤ r27 ∧ r27 ≤ 10 ∧ r27 ≤ ((l0.length : Nat) : Int)) := hk33
  replace hk34 : r26 ≤ 18446744073709551615 := hk34
  refine Mv rfl rfl (Kn (v := .int .u64 ((r26 : Nat) : Int)) rfl rfl rfl (fun _ => by kernel_rfl) (Kn (v := .int .i64 r27) rfl rfl rfl (fun _ => by kernel_rfl) (Kn (v := .int .i64 r28) rfl rfl rfl (fun _ => by kernel_rfl) (As rfl rfl (As rfl rfl (As rfl rfl (WL.nil (Fin.then (Wp.seq (Wp.seq (Wp.region (Mv rfl rfl (WL.val (v := .bool (decide (¬ (r28 = 0)))) rfl (Yl.bool (e := !(decide (r28 = 0))) (Yl.kern rfl rfl (fun _ => by kernel_rfl)) decide_not.symm) (WL.nil (Fin.then ?_)))))))))))))))
  by_cases h35 : r28 = 0
  refine Wp.cond0 rfl (decide_eq_false (not_not_intro h35)) (Wp.skip (Fin.then (Wp.seq (Wp.seq (Wp.region (Mv rfl rfl (Kn (v := .bool (decide (p1 < 0))) rfl rfl rfl (fun _ => by kernel_rfl) (Mv rfl rfl ?_))))))))
  by_cases h36 : p1 < 0
  refine Sk rfl rfl (decide_eq_true h36) rfl (Sk rfl rfl (decide_eq_true h36) rfl (Sk rfl rfl (decide_eq_true h36) rfl (Sk rfl rfl (decide_eq_true h36) rfl (WL.val (v := .bool true) rfl (Yl.pickT rfl (decide_eq_true h36) rfl) (WL.nil (Fin.then (Wp.cond1 rfl rfl (Wp.seq (Wp.region (As rfl rfl (As rfl rfl (As rfl rfl (WL.nil (Fin.then (Wp.ret (Fin.thenR (Fin.res (res3 rfl rfl rfl rfl) ?_)))))))))))))))))
  have H37 := H32.pick [] (by decide) rfl
  have e : octet_ReadText l0 p1 = ([], 0, 2) := Eq.trans (bnd_of hr29) (Eq.trans (if_pos h35) (if_pos h36))
  obtain ⟨rfl, rfl, rfl⟩ := pj3 (e.symm.trans hr)
  exact ⟨rfl, H37, (by first | omega | (simp only [List.length_take, List.length_drop]; omega))⟩
  refine WL.valG (v := .int .u64 ((r26 : Nat) : Int)) rfl rfl (decide_eq_false h36) rfl (Yl.move rfl) (WL.valG (v := .int .i64 p1) rfl rfl (decide_eq_false h36) rfl (Yl.move rfl) ?_)
  have hz38 : Int.toNat (IntKind.u64.wrap p1) ≤ 18446744073709551615 := wrapN_u64 _
  refine WL.valG (v := .int .u64 ((Int.toNat (IntKind.u64.wrap p1) : Nat) : Int)) rfl rfl (decide_eq_false h36) rfl (Yl.int (e := IntKind.u64.wrap p1) (Yl.kern rfl rfl (fun _ => by kernel_rfl)) (wrap_nat_u64 _)) (WL.valG (v := .bool (decide (((r26 : Nat) : Int) > ((Int.toNat (IntKind.u64.wrap p1) : Nat) : Int)))) rfl rfl (decide_eq_false h36) rfl (Yl.kern rfl rfl (fun _ => by kernel_rfl)) (WL.val (v := .bool (decide (((r26 : Nat) : Int) > ((Int.toNat (IntKind.u64.wrap p1) : Nat) : Int)))) rfl (Yl.pickF rfl (decide_eq_false h36) rfl) (WL.nil (Fin.then ?_))))
  by_cases h39 : ((r26 : Nat) : Int) > ((Int.toNat (IntKind.u64.wrap p1) : Nat) : Int)
  refine Wp.cond1 rfl (decide_eq_true h39) (Wp.seq (Wp.region (As rfl rfl (As rfl rfl (As rfl rfl (WL.nil (Fin.then (Wp.ret (Fin.thenR (Fin.res (res3 rfl rfl rfl rfl) ?_))))))))))
  have H40 := H32.pick [] (by decide) rfl
  have e : octet_ReadText l0 p1 = ([], 0, 2) := Eq.trans (bnd_of hr29) (Eq.trans (if_pos h35) (Eq.trans (if_neg h36) (if_pos h39)))
  obtain ⟨rfl, rfl, rfl⟩ := pj3 (e.symm.trans hr)
  exact ⟨rfl, H40, (by first | omega | (simp only [List.length_take, List.length_drop]; omega))⟩
  refine Wp.cond0 rfl (decide_eq_false h39) (Wp.skip (Fin.then (Wp.seq (Wp.seq (Wp.region (Mv rfl rfl (Mv rfl rfl (Kn (v := .int .i64 ((l0.length : Nat) : Int)) rfl rfl rfl (fun _ => by kernel_rfl) (Mv rfl rfl (WL.val (v := .int .i64 (((l0.length : Nat) : Int) - r27)) rfl (Yl.int (e := IntKind.i64.wrap (((l0.length : Nat) : Int) - r27)) (Yl.kern rfl rfl (fun _ => by kernel_rfl)) (by rw [IntWalk.i64_in _ (by omega)])) (WL.val (v := .int .u64 ((Int.toNat (((l0.length : Nat) : Int) - r27) : Nat) : Int)) rfl (Yl.int (e := IntKind.u64.wrap (((l0.length : Nat) : Int) - r27)) (Yl.kern rfl rfl (fun _ => by kernel_rfl)) (by rw [IntWalk.u64_in _ (by omega)]; omega)) (Kn (v := .bool (decide (((r26 : Nat) : Int) > ((Int.toNat (((l0.length : Nat) : Int) - r27) : Nat) : Int)))) rfl rfl rfl (fun _ => by kernel_rfl) (WL.nil (Fin.then ?_))))))))))))))
  by_cases h41 : ((r26 : Nat) : Int) > ((Int.toNat (((l0.length : Nat) : Int) - r27) : Nat) : Int)
  refine Wp.cond1 rfl (decide_eq_true h41) (Wp.seq (Wp.region (As rfl rfl (As rfl rfl (As rfl rfl (WL.nil (Fin.then (Wp.ret (Fin.thenR (Fin.res (res3 rfl rfl rfl rfl) ?_))))))))))
  have H42 := H32.pick [] (by decide) rfl
  have e : octet_ReadText l0 p1 = ([], 0, 10) := Eq.trans (bnd_of hr29) (Eq.trans (if_pos h35) (Eq.trans (if_neg h36) (Eq.trans (if_neg h39) (if_pos h41))))
  obtain ⟨rfl, rfl, rfl⟩ := pj3 (e.symm.trans hr)
  exact ⟨rfl, H42, (by first | omega | (simp only [List.length_take, List.length_drop]; omega))⟩
  refine Wp.cond0 rfl (decide_eq_false h41) (Wp.skip (Fin.then (Wp.seq (Wp.region (Mv rfl rfl (Mv rfl rfl (WL.val (v := .int .i64 ((r26 : Nat) : Int)) rfl (Yl.int (e := IntKind.i64.wrap ((r26 : Nat) : Int)) (Yl.kern rfl rfl (fun _ => by kernel_rfl)) (IntWalk.i64_in _ (by omega))) (WL.val (v := .int .i64 (r27 + ((r26 : Nat) : Int))) rfl (Yl.int (e := IntKind.i64.wrap (r27 + ((r26 : Nat) : Int))) (Yl.kern rfl rfl (fun _ => by kernel_rfl)) (by rw [IntWalk.i64_in _ (by omega)])) (As rfl rfl (WL.nil (Fin.then (Wp.seq (Wp.region (Mv rfl rfl (WL.val (v := .int .i64 ((Int.toNat r27 : Nat) : Int)) rfl (Yl.int (e := r27) (Yl.move rfl) (by omega)) (WL.val (v := .int .i64 ((Int.toNat (r27 + ((r26 : Nat) : Int)) : Nat) : Int)) rfl (Yl.int (e := r27 + ((r26 : Nat) : Int)) (Yl.move rfl) (by omega)) (WL.val (v := .slice (cutA A0 (Int.toNat r27) 1 c0) ((Int.toNat (r27 + ((r26 : Nat) : Int))) - (Int.toNat r27)) (c0 - (Int.toNat r27))) rfl (Yl.cut (El29) rfl rfl rfl (by omega) (by omega)) (WL.val (v := .string ⟨List.toArray (List.take ((Int.toNat (r27 + ((r26 : Nat) : Int))) - (Int.toNat r27)) (List.drop (Int.toNat r27) l0))⟩) rfl (Yl.toStringE (l := (List.take ((Int.toNat (r27 + ((r26 : Nat) : Int))) - (Int.toNat r27)) (List.drop (Int.toNat r27) l0))) Tryz.underlying29 Tryz.underlying5 Tryz.underlying9 (Rds.cutE (lo := Int.toNat r27) (hi := Int.toNat (r27 + ((r26 : Nat) : Int))) eB_len (H32.ro hx0) (by omega) (by omega) (by omega)) rfl) (Mv rfl rfl (As rfl rfl (As rfl rfl (As rfl rfl (WL.nil (Fin.then (Wp.ret (Fin.res (res3 rfl rfl rfl rfl) ?_))))))))))))))))))))))))))
  have H43 := H32.pick [] (by decide) rfl
  have e : octet_ReadText l0 p1 = ((List.take ((Int.toNat (r27 + ((r26 : Nat) : Int))) - (Int.toNat r27)) (List.drop (Int.toNat r27) l0)), r27 + ((r26 : Nat) : Int), 0) := Eq.trans (bnd_of hr29) (Eq.trans (if_pos h35) (Eq.trans (if_neg h36) (Eq.trans (if_neg h39) (if_neg h41))))
  obtain ⟨rfl, rfl, rfl⟩ := pj3 (e.symm.trans hr)
  exact ⟨rfl, H43, (by first | omega | (simp only [List.length_take, List.length_drop]; omega))⟩
  refine Wp.cond1 rfl (decide_eq_true h35) (Wp.seq (Wp.region (Mv rfl rfl (As rfl rfl (As rfl rfl (As rfl rfl (WL.nil (Fin.then (Wp.ret (Fin.thenR (Fin.res (res3 rfl rfl rfl rfl) ?_)))))))))))
  have H44 := H32.pick [] (by decide) rfl
  have e : octet_ReadText l0 p1 = ([], 0, r28) := Eq.trans (bnd_of hr29) (if_neg h35)
  obtain ⟨rfl, rfl, rfl⟩ := pj3 (e.symm.trans hr)
  exact ⟨rfl, H44, (by first | omega | (simp only [List.length_take, List.length_drop]; omega))⟩

structure ReaderD where
  xrest : Sv UInt8
  xerrno : Int

def ReaderD.cells (x : ReaderD) : List Value := [.slice x.xrest.A x.xrest.ls.length x.xrest.c, .int .i64 x.xerrno]

instance : Bk ReaderD := ⟨fun x _ => bk x.xrest + (bk x.xerrno + (0))⟩

theorem ReaderD.len : ∀ x, (ReaderD.cells x).length = 2 := fun _ => rfl

theorem ReaderD.one : ∀ x, ∀ u ∈ ReaderD.cells x, u.oneCell' = true := fun x u hu => by
  simp only [ReaderD.cells, List.mem_cons, List.not_mem_nil, or_false] at hu
  rcases hu with rfl | rfl <;> rfl

def ReaderD.Ok (w : World) (x : ReaderD) : Prop := (SvOk w 1 1 eB (fun _ => True) x.xrest) ∧ ((-9223372036854775808) ≤ x.xerrno ∧ x.xerrno ≤ 9223372036854775807)

instance : Inhabited ReaderD := ⟨⟨default, default⟩⟩

structure ReaderT where
  xrest : Ll UInt8
  xerrno : Int

instance : Inhabited ReaderT := ⟨⟨default, default⟩⟩

def ReaderD.abs (x : ReaderD) : ReaderT := ⟨⟨x.xrest.ls⟩, x.xerrno⟩

def ReaderD.own (x : ReaderD) : List HP := [row x.xrest.A x.xrest.ls.length x.xrest.c (List.flatMap eB x.xrest.ls) 5 1]

def reader_New (l0 : List UInt8) : ReaderT :=
  ReaderT.mk (Ll.mk l0) 0

set_option maxRecDepth 100000 in
theorem reader_New_ok (w : World) (D : Nat → Prop) (A0 : Option Addr) (n0 c0 : Nat) (l0 : List UInt8) (r0 : ReaderT) (H : Own w D w []) (hx0 : Ro w D fun w' => Rds w' 1 A0 n0 (List.flatMap eB l0)) (hn0 : n0 = l0.length) (hl0 : l0.length * 1 ≤ 211106232532992) (hq0 : l0.length ≤ c0) (hr : reader_New l0 = r0) :
    Calls Tryz.prog 47 #[.slice A0 n0 c0] w (Ret fun v w' => ∃ (G0 : Nat) (B0nx0 : Option Addr) (b0nx0 : Nat), v = .pointer (some ⟨G0, 0, none⟩) ∧ Own w D w' [blk G0 [.slice B0nx0 r0.xrest.ls.length b0nx0, .int .i64 r0.xerrno] 102] ∧ (SubS 1 A0 c0 l0 B0nx0 b0nx0 r0.xrest.ls)) := by
  subst hn0
  refine Calls.body (args := [.slice A0 l0.length c0]) Tryz.func47 rfl rfl rfl ?_
  show Wp _ _ _ [(0, .slice A0 l0.length c0)] _ _
  refine Wp.seq (Wp.region (As rfl rfl (WL.nil (Fin.then (Wp.seq (Wp.region (Mv rfl rfl (Kn (v := .agg #[.slice A0 l0.length c0, .int .i64 0]) rfl rfl rfl (fun _ => by kernel_rfl) ?_))))))))
  refine WL.do rfl (Do.newP (cs := [.slice A0 l0.length c0, .int .i64 0]) (t := 102) H rfl rfl (fun _ => by kernel_rfl) ?_)
  intro g21 w22 H23
  refine As rfl rfl (WL.nil (Fin.then (Wp.ret (Fin.res (res1 rfl rfl) ?_))))
  have H24 := H23.pick [0] (by decide) rfl
  have e : reader_New l0 = ReaderT.mk (Ll.mk l0) 0 := rfl
  obtain rfl := e.symm.trans hr
  exact ⟨g21, A0, c0, rfl, H24, (SubS.refl (by omega))⟩

def reader_Reader_Fail (p0 : ReaderT) (p1 : Int) : ReaderT :=
  if p0.xerrno = 0 then ReaderT.mk (Ll.mk ([])) p1 else p0

set_option maxRecDepth 100000 in
theorem reader_Reader_Fail_ok (w : World) (D : Nat → Prop) (g0 : Nat) (p0 : ReaderT) (A0x0 : Option Addr) (c0x0 : Nat) (p1 : Int) (r0 : ReaderT) (H : Own w D w [blk g0 [.slice A0x0 p0.xrest.ls.length c0x0, .int .i64 p0.xerrno] 102]) (hx0x0 : Ro w D fun w' => Rds w' 1 A0x0 p0.xrest.ls.length (List.flatMap eB p0.xrest.ls)) (hb0x0 : p0.xrest.ls.length ≤ c0x0 ∧ p0.xrest.ls.length ≤ 9223372036854775807) (hr : reader_Reader_Fail p0 p1 = r0) :
    Calls Tryz.prog 52 #[.pointer (some ⟨g0, 0, none⟩), .int .i64 p1] w (Ret fun v w' => ∃ (B0ox0 : Option Addr) (b0ox0 : Nat), v = .tuple #[] ∧ Own w D w' [blk g0 [.slice B0ox0 r0.xrest.ls.length b0ox0, .int .i64 r0.xerrno] 102] ∧ (SubS 1 A0x0 c0x0 p0.xrest.ls B0ox0 b0ox0 r0.xrest.ls)) := by
  refine Calls.body (args := [.pointer (some ⟨g0, 0, none⟩), .int .i64 p1]) Tryz.func52 rfl rfl rfl ?_
  show Wp _ _ _ [(0, .pointer (some ⟨g0, 0, none⟩)), (1, .int .i64 p1)] _ _
  refine Wp.seq (Wp.region (Mv rfl rfl (Kn (v := .pointer (some ⟨g0, 0, none⟩)) rfl rfl rfl (fun _ => by kernel_rfl) (Kn (v := .pointer (some ⟨g0, 1, none⟩)) rfl rfl rfl (fun _ => by kernel_rfl) (WL.val (v := .int .i64 p0.xerrno) rfl (Yl.load rfl (Lds.one Tryz.isAgg30 (Cls.of (H.cls (i := 0) rfl) rfl))) (Kn (v := .bool (decide (p0.xerrno = 0))) rfl rfl rfl (fun _ => by kernel_rfl) (WL.nil (Fin.then ?_))))))))
  by_cases h21 : p0.xerrno = 0
  refine Wp.cond1 rfl (decide_eq_true h21) (Wp.seq (Wp.region (Mv rfl rfl (Mv rfl rfl (Kn (v := .pointer (some ⟨g0, 0, none⟩)) rfl rfl rfl (fun _ => by kernel_rfl) (Kn (v := .pointer (some ⟨g0, 1, none⟩)) rfl rfl rfl (fun _ => by kernel_rfl) ?_))))))
  refine WL.do0 (Do.store (vs := [.int .i64 p1]) (o := 1) H rfl rfl Tryz.sizeOf30 rfl rfl rfl rfl ?_)
  intro w22 H23
  refine WL.nil (Fin.then (Wp.region (Mv rfl rfl (Kn (v := .pointer (some ⟨g0, 0, none⟩)) rfl rfl rfl (fun _ => by kernel_rfl) (Kn (v := .pointer (some ⟨g0, 0, none⟩)) rfl rfl rfl (fun _ => by kernel_rfl) ?_)))))
  refine WL.do0 (Do.store (vs := [.slice none 0 0]) (o := 0) H23 rfl rfl Tryz.sizeOf29 rfl rfl rfl rfl ?_)
  intro w24 H25
  refine WL.nil (Fin.res0 (res0 rfl) ?_)
  have H26 := H25.pick [0] (by decide) rfl
  have e : reader_Reader_Fail p0 p1 = ReaderT.mk (Ll.mk ([])) p1 := if_pos h21
  obtain rfl := e.symm.trans hr
  exact ⟨none, 0, rfl, H26, SubS.nil⟩
  refine Wp.cond0 rfl (decide_eq_false h21) (Wp.skip (Fin.res0 (res0 rfl) ?_))
  have H27 : Own w D w [blk g0 [.slice A0x0 p0.xrest.ls.length c0x0, .int .i64 p0.xerrno] 102] := H.pick [0] (by decide) rfl
  have e : reader_Reader_Fail p0 p1 = p0 := if_neg h21
  obtain rfl := e.symm.trans hr
  exact ⟨A0x0, c0x0, rfl, H27, (SubS.refl (by omega))⟩

def reader_Reader_Octet (p0 : ReaderT) : UInt8 × ReaderT :=
  if ((p0.xrest.ls.length : Nat) : Int) = 0 then bnd (reader_Reader_Fail p0 10) fun yr27 => ((0 : UInt8), yr27) else bnd (List.getD p0.xrest.ls 0 default) fun yx37 => (yx37, ReaderT.mk (Ll.mk (List.drop 1 p0.xrest.ls)) p0.xerrno)

set_option maxRecDepth 100000 in
theorem reader_Reader_Octet_ok (w : World) (D : Nat → Prop) (g0 : Nat) (p0 : ReaderT) (A0x0 : Option Addr) (c0x0 : Nat) (r0 : UInt8) (r1 : ReaderT) (H : Own w D w [blk g0 [.slice A0x0 p0.xrest.ls.length c0x0, .int .i64 p0.xerrno] 102]) (hx0x0 : Ro w D fun w' => Rds w' 1 A0x0 p0.xrest.ls.length (List.flatMap eB p0.xrest.ls)) (hb0x0 : p0.xrest.ls.length ≤ c0x0 ∧ p0.xrest.ls.length ≤ 9223372036854775807) (hr : reader_Reader_Octet p0 = (r0, r1)) :
    Calls Tryz.prog 48 #[.pointer (some ⟨g0, 0, none⟩)] w (Ret fun v w' => ∃ (B1ox0 : Option Addr) (b1ox0 : Nat), v = .int .u8 ((r0.toNat : Nat) : Int) ∧ Own w D w' [blk g0 [.slice B1ox0 r1.xrest.ls.length b1ox0, .int .i64 r1.xerrno] 102] ∧ (SubS 1 A0x0 c0x0 p0.xrest.ls B1ox0 b1ox0 r1.xrest.ls)) := by
  refine Calls.body (args := [.pointer (some ⟨g0, 0, none⟩)]) Tryz.func48 rfl rfl rfl ?_
  show Wp _ _ _ [(0, .pointer (some ⟨g0, 0, none⟩))] _ _
  refine Wp.seq (Wp.region (As rfl rfl (WL.nil (Fin.then (Wp.seq (Wp.seq (Wp.region (Mv rfl rfl (Kn (v := .pointer (some ⟨g0, 0, none⟩)) rfl rfl rfl (fun _ => by kernel_rfl) (Kn (v := .pointer (some ⟨g0, 0, none⟩)) rfl rfl rfl (fun _ => by kernel_rfl) (WL.val (v := .slice A0x0 p0.xrest.ls.length c0x0) rfl (Yl.load rfl (Lds.one Tryz.isAgg29 (Cls.of (H.cls (i := 0) rfl) rfl))) (Kn (v := .int .i64 ((p0.xrest.ls.length : Nat) : Int)) rfl rfl rfl (fun _ => by kernel_rfl) (Kn (v := .bool (decide (((p0.xrest.ls.length : Nat) : Int) = 0))) rfl rfl rfl (fun _ => by kernel_rfl) (WL.nil (Fin.then ?_)))))))))))))))
  by_cases h21 : ((p0.xrest.ls.length : Nat) : Int) = 0
  refine Wp.cond1 rfl (decide_eq_true h21) (Wp.seq (Wp.region (Mv rfl rfl ?_)))
  obtain ⟨r27, hr28⟩ : ∃ q, reader_Reader_Fail p0 10 = q := ⟨_, rfl⟩
  obtain ⟨D22, HP23, ro24, bk25, rr26⟩ := Own.enter1 H
  refine WL.do rfl (Do.call Tryz.call52 rfl (reader_Reader_Fail_ok _ _ g0 p0 A0x0 c0x0 10 r27 HP23 (ro24 _ hx0x0) (show p0.xrest.ls.length ≤ c0x0 ∧ p0.xrest.ls.length ≤ 9223372036854775807 from by omega) hr28) ?_)
  rintro _ w29 ⟨A32, c33, rfl, HQ30, hs34⟩
  have H31 := bk25 _ _ HQ30
  replace hs34 : SubS 1 A0x0 c0x0 p0.xrest.ls A32 c33 r27.xrest.ls := hs34
  have hz35 := (hs34).le
  refine WL.nil (Fin.then (Wp.seq (Wp.region (As rfl rfl (WL.nil (Fin.then (Wp.ret (Fin.thenR (Fin.res (res1 rfl rfl) ?_)))))))))
  have H36 := H31.pick [0] (by decide) rfl
  have e : reader_Reader_Octet p0 = ((0 : UInt8), r27) := Eq.trans (if_pos h21) (bnd_of hr28)
  obtain ⟨rfl, rfl⟩ := pj2 (e.symm.trans hr)
  exact ⟨A32, c33, rfl, H36, hs34⟩
  refine Wp.cond0 rfl (decide_eq_false h21) (Wp.skip (Fin.then (Wp.seq (Wp.region (Mv rfl rfl (Kn (v := .pointer (some ⟨g0, 0, none⟩)) rfl rfl rfl (fun _ => by kernel_rfl) (Kn (v := .pointer (some ⟨g0, 0, none⟩)) rfl rfl rfl (fun _ => by kernel_rfl) (WL.val (v := .slice A0x0 p0.xrest.ls.length c0x0) rfl (Yl.load rfl (Lds.one Tryz.isAgg29 (Cls.of (H.cls (i := 0) rfl) rfl))) ?_))))))))
  obtain ⟨x37, hx38⟩ := rds_at (ls := p0.xrest.ls) (i := 0) eB_len (by decide) (H.ro hx0x0) (by first | omega | (simp; done) | (simp; omega))
  refine WL.val (v := .pointer (some ⟨ab A0x0, ao A0x0 + 0 * 1, none⟩)) rfl (Yl.indexAddr (El29) rfl rfl ((H.ro hx0x0).addr (i := 0) (by omega)) (by omega)) (WL.val (v := .int .u8 ((x37.toNat : Nat) : Int)) rfl (Yl.load rfl (Lds.one Tryz.isAgg5 (((H.ro hx0x0).elem eB_len hx38 (by decide)).at_ (k := 0) rfl))) (As rfl rfl (WL.nil (Fin.then (Wp.seq (Wp.region (Mv rfl rfl (Mv rfl rfl (Kn (v := .pointer (some ⟨g0, 0, none⟩)) rfl rfl rfl (fun _ => by kernel_rfl) (Kn (v := .pointer (some ⟨g0, 0, none⟩)) rfl rfl rfl (fun _ => by kernel_rfl) (WL.val (v := .slice A0x0 p0.xrest.ls.length c0x0) rfl (Yl.load rfl (Lds.one Tryz.isAgg29 (Cls.of (H.cls (i := 0) rfl) rfl))) (WL.val (v := .slice (cutA A0x0 1 1 c0x0) (p0.xrest.ls.length - 1) (c0x0 - 1)) rfl (Yl.cutFrom (El29) rfl rfl (by omega)) (Kn (v := .pointer (some ⟨g0, 0, none⟩)) rfl rfl rfl (fun _ => by kernel_rfl) (Kn (v := .pointer (some ⟨g0, 0, none⟩)) rfl rfl rfl (fun _ => by kernel_rfl) ?_))))))))))))))
  refine WL.do0 (Do.store (vs := [.slice (cutA A0x0 1 1 c0x0) (p0.xrest.ls.length - 1) (c0x0 - 1)]) (o := 0) H rfl rfl Tryz.sizeOf29 rfl rfl rfl rfl ?_)
  intro w39 H40
  refine WL.nil (Fin.then (Wp.seq (Wp.region (Mv rfl rfl (As rfl rfl (WL.nil (Fin.then (Wp.ret (Fin.res (res1 rfl rfl) ?_)))))))))
  have hn41 : p0.xrest.ls.length - 1 = List.length (List.drop 1 p0.xrest.ls) := by first | omega | (simp only [List.length_drop, List.length_take] <;> omega)
  have H42 : Own w D w39 [blk g0 [.slice (cutA A0x0 1 1 c0x0) (List.length (List.drop 1 p0.xrest.ls)) (c0x0 - 1), .int .i64 p0.xerrno] 102] := by rw [← hn41]; exact H40
  have H43 := H42.pick [0] (by decide) rfl
  have e : reader_Reader_Octet p0 = (x37, ReaderT.mk (Ll.mk (List.drop 1 p0.xrest.ls)) p0.xerrno) := Eq.trans (if_neg h21) (bnd_of (getD_of hx38))
  obtain ⟨rfl, rfl⟩ := pj2 (e.symm.trans hr)
  exact ⟨cutA A0x0 1 1 c0x0, c0x0 - 1, (by first | rfl | (rw [← hn41]; done) | (rw [← hn41]; rfl)), H43, (SubS.cut (SubS.refl (by omega)) (by first | omega | (simp only [List.length_drop]; omega)))⟩

def reader_Reader_Num (p0 : ReaderT) (p1 : Nat) : Nat × ReaderT :=
  bnd (octet_ReadNum p0.xrest.ls) fun yr26 => if yr26.2.2 = 0 then if ((yr26.1 : Nat) : Int) > ((p1 : Nat) : Int) then bnd (reader_Reader_Fail p0 11) fun yr42 => (0, yr42) else (yr26.1, ReaderT.mk (Ll.mk (List.drop (Int.toNat yr26.2.1) p0.xrest.ls)) p0.xerrno) else bnd (reader_Reader_Fail p0 yr26.2.2) fun yr64 => (0, yr64)

set_option maxRecDepth 100000 in
theorem reader_Reader_Num_ok (w : World) (D : Nat → Prop) (g0 : Nat) (p0 : ReaderT) (A0x0 : Option Addr) (c0x0 : Nat) (p1 : Nat) (r0 : Nat) (r1 : ReaderT) (H : Own w D w [blk g0 [.slice A0x0 p0.xrest.ls.length c0x0, .int .i64 p0.xerrno] 102]) (hx0x0 : Ro w D fun w' => Rds w' 1 A0x0 p0.xrest.ls.length (List.flatMap eB p0.xrest.ls)) (hb0x0 : p0.xrest.ls.length ≤ c0x0 ∧ p0.xrest.ls.length ≤ 9223372036854775807) (hr : reader_Reader_Num p0 p1 = (r0, r1)) :
    Calls Tryz.prog 70 #[.pointer (some ⟨g0, 0, none⟩), .int .u64 ((p1 : Nat) : Int)] w (Ret fun v w' => ∃ (B1ox0 : Option Addr) (b1ox0 : Nat), v = .int .u64 ((r0 : Nat) : Int) ∧ Own w D w' [blk g0 [.slice B1ox0 r1.xrest.ls.length b1ox0, .int .i64 r1.xerrno] 102] ∧ (SubS 1 A0x0 c0x0 p0.xrest.ls B1ox0 b1ox0 r1.xrest.ls) ∧ (r0 ≤ p1)) := by
  refine Calls.body (args := [.pointer (some ⟨g0, 0, none⟩), .int .u64 ((p1 : Nat) : Int)]) Tryz.func70 rfl rfl rfl ?_
  show Wp _ _ _ [(0, .pointer (some ⟨g0, 0, none⟩)), (1, .int .u64 ((p1 : Nat) : Int))] _ _
  refine Wp.seq (Wp.region (As rfl rfl (WL.nil (Fin.then (Wp.seq (Wp.region (Mv rfl rfl (Kn (v := .pointer (some ⟨g0, 0, none⟩)) rfl rfl rfl (fun _ => by kernel_rfl) (Kn (v := .pointer (some ⟨g0, 0, none⟩)) rfl rfl rfl (fun _ => by kernel_rfl) (WL.val (v := .slice A0x0 p0.xrest.ls.length c0x0) rfl (Yl.load rfl (Lds.one Tryz.isAgg29 (Cls.of (H.cls (i := 0) rfl) rfl))) ?_))))))))))
  obtain ⟨⟨r26, r27, r28⟩, hr29⟩ : ∃ q : Nat × Int × Int, octet_ReadNum p0.xrest.ls = q := ⟨_, rfl⟩
  obtain ⟨D21, HP22, ro23, bk24, rr25⟩ := Own.enter0 H
  refine WL.do rfl (Do.call Tryz.call84 rfl (octet_ReadNum_ok _ _ A0x0 p0.xrest.ls.length c0x0 p0.xrest.ls r26 r27 r28 HP22 (ro23 _ hx0x0) rfl (by omega) (by first | omega | (simp only [List.length_take, List.length_drop]; omega)) hr29) ?_)
  rintro _ w30 ⟨rfl, HQ31, hk33, hk34⟩
  have H32 := bk24 _ _ HQ31
  replace hk33 : ¬ (r28 = 0) ∨ (1 ≤ r27 ∧ r27 ≤ 10 ∧ r27 ≤ ((p0.xrest.ls.length : Nat) : Int)) := hk33
  replace hk34 : r26 ≤ 18446744073709551615 := hk34
  refine Mv rfl rfl (Kn (v := .int .u64 ((r26 : Nat) : Int)) rfl rfl rfl (fun _ => by kernel_rfl) (Kn (v := .int .i64 r27) rfl rfl rfl (fun _ => by kernel_rfl) (Kn (v := .int .i64 r28) rfl rfl rfl (fun _ => by kernel_rfl) (As rfl rfl (As rfl rfl (As rfl rfl (WL.nil (Fin.then (Wp.seq (Wp.seq (Wp.region (Mv rfl rfl (Kn (v := .bool (decide (r28 = 0))) rfl rfl rfl (fun _ => by kernel_rfl) (Mv rfl rfl ?_))))))))))))))
  by_cases h35 : r28 = 0
  refine WL.valG (v := .int .u64 ((r26 : Nat) : Int)) rfl rfl (decide_eq_true h35) rfl (Yl.move rfl) (WL.valG (v := .int .u64 ((p1 : Nat) : Int)) rfl rfl (decide_eq_true h35) rfl (Yl.move rfl) (WL.valG (v := .bool (decide (((r26 : Nat) : Int) > ((p1 : Nat) : Int)))) rfl rfl (decide_eq_true h35) rfl (Yl.kern rfl rfl (fun _ => by kernel_rfl)) (WL.val (v := .bool (decide (((r26 : Nat) : Int) > ((p1 : Nat) : Int)))) rfl (Yl.pickT rfl (decide_eq_true h35) rfl) (WL.nil (Fin.then ?_)))))
  by_cases h36 : ((r26 : Nat) : Int) > ((p1 : Nat) : Int)
  refine Wp.cond1 rfl (decide_eq_true h36) (Wp.region (As rfl rfl (WL.nil (Fin.then (Wp.seq (Wp.seq (Wp.region (Mv rfl rfl (Kn (v := .bool true) rfl rfl rfl (fun _ => by kernel_rfl) (WL.nil (Fin.then (Wp.cond1 rfl rfl (Wp.seq (Wp.region (Mv rfl rfl (Mv rfl rfl ?_))))))))))))))))
  obtain ⟨r42, hr43⟩ : ∃ q, reader_Reader_Fail p0 11 = q := ⟨_, rfl⟩
  obtain ⟨D37, HP38, ro39, bk40, rr41⟩ := Own.enter1 H32
  refine WL.do rfl (Do.call Tryz.call52 rfl (reader_Reader_Fail_ok _ _ g0 p0 A0x0 c0x0 11 r42 HP38 (ro39 _ hx0x0) (show p0.xrest.ls.length ≤ c0x0 ∧ p0.xrest.ls.length ≤ 9223372036854775807 from by omega) hr43) ?_)
  rintro _ w44 ⟨A47, c48, rfl, HQ45, hs49⟩
  have H46 := bk40 _ _ HQ45
  replace hs49 : SubS 1 A0x0 c0x0 p0.xrest.ls A47 c48 r42.xrest.ls := hs49
  have hz50 := (hs49).le
  refine WL.nil (Fin.then (Wp.seq (Wp.region (As rfl rfl (WL.nil (Fin.then (Wp.ret (Fin.thenR (Fin.res (res1 rfl rfl) ?_)))))))))
  have H51 := H46.pick [0] (by decide) rfl
  have e : reader_Reader_Num p0 p1 = (0, r42) := Eq.trans (bnd_of hr29) (Eq.trans (if_pos h35) (Eq.trans (if_pos h36) (bnd_of hr43)))
  obtain ⟨rfl, rfl⟩ := pj2 (e.symm.trans hr)
  exact ⟨A47, c48, rfl, H51, hs49, (by omega)⟩
  refine Wp.cond0 rfl (decide_eq_false h36) (Wp.skip (Fin.then (Wp.seq (Wp.seq (Wp.region (Mv rfl rfl (WL.val (v := .bool (decide (¬ (r28 = 0)))) rfl (Yl.bool (e := !(decide (r28 = 0))) (Yl.kern rfl rfl (fun _ => by kernel_rfl)) decide_not.symm) (WL.nil (Fin.then ?_)))))))))
  have hb52 : (decide (¬ (r28 = 0))) = false := (decide_eq_false (by omega))
  refine Wp.cond0 rfl hb52 (Wp.skip (Fin.then (Wp.seq (Wp.region (Mv rfl rfl (Mv rfl rfl (Kn (v := .pointer (some ⟨g0, 0, none⟩)) rfl rfl rfl (fun _ => by kernel_rfl) (Kn (v := .pointer (some ⟨g0, 0, none⟩)) rfl rfl rfl (fun _ => by kernel_rfl) (WL.val (v := .slice A0x0 p0.xrest.ls.length c0x0) rfl (Yl.load rfl (Lds.one Tryz.isAgg29 (Cls.of (H32.cls (i := 0) rfl) rfl))) (WL.val (v := .int .i64 ((Int.toNat r27 : Nat) : Int)) rfl (Yl.int (e := r27) (Yl.move rfl) (by omega)) (WL.val (v := .slice (cutA A0x0 (Int.toNat r27) 1 c0x0) (p0.xrest.ls.length - (Int.toNat r27)) (c0x0 - (Int.toNat r27))) rfl (Yl.cutFrom (El29) rfl rfl (by omega)) (Kn (v := .pointer (some ⟨g0, 0, none⟩)) rfl rfl rfl (fun _ => by kernel_rfl) (Kn (v := .pointer (some ⟨g0, 0, none⟩)) rfl rfl rfl (fun _ => by kernel_rfl) ?_)))))))))))))
  refine WL.do0 (Do.store (vs := [.slice (cutA A0x0 (Int.toNat r27) 1 c0x0) (p0.xrest.ls.length - (Int.toNat r27)) (c0x0 - (Int.toNat r27))]) (o := 0) H32 rfl rfl Tryz.sizeOf29 rfl rfl rfl rfl ?_)
  intro w53 H54
  refine WL.nil (Fin.then (Wp.seq (Wp.region (Mv rfl rfl (As rfl rfl (WL.nil (Fin.then (Wp.ret (Fin.res (res1 rfl rfl) ?_)))))))))
  have hn55 : p0.xrest.ls.length - (Int.toNat r27) = List.length (List.drop (Int.toNat r27) p0.xrest.ls) := by first | omega | (simp only [List.length_drop, List.length_take] <;> omega)
  have H56 : Own w D w53 [blk g0 [.slice (cutA A0x0 (Int.toNat r27) 1 c0x0) (List.length (List.drop (Int.toNat r27) p0.xrest.ls)) (c0x0 - (Int.toNat r27)), .int .i64 p0.xerrno] 102] := by rw [← hn55]; exact H54
  have H57 := H56.pick [0] (by decide) rfl
  have e : reader_Reader_Num p0 p1 = (r26, ReaderT.mk (Ll.mk (List.drop (Int.toNat r27) p0.xrest.ls)) p0.xerrno) := Eq.trans (bnd_of hr29) (Eq.trans (if_pos h35) (if_neg h36))
  obtain ⟨rfl, rfl⟩ := pj2 (e.symm.trans hr)
  exact ⟨cutA A0x0 (Int.toNat r27) 1 c0x0, c0x0 - (Int.toNat r27), (by first | rfl | (rw [← hn55]; done) | (rw [← hn55]; rfl)), H57, (SubS.cut (SubS.refl (by omega)) (by first | omega | (simp only [List.length_drop]; omega))), (by omega)⟩
  refine Sk rfl rfl (decide_eq_false h35) rfl (Sk rfl rfl (decide_eq_false h35) rfl (Sk rfl rfl (decide_eq_false h35) rfl (WL.val (v := .bool false) rfl (Yl.pickF rfl (decide_eq_false h35) rfl) (WL.nil (Fin.then (Wp.cond0 rfl rfl (Wp.skip (Fin.then (Wp.seq (Wp.seq (Wp.region (Mv rfl rfl (WL.val (v := .bool (decide (¬ (r28 = 0)))) rfl (Yl.bool (e := !(decide (r28 = 0))) (Yl.kern rfl rfl (fun _ => by kernel_rfl)) decide_not.symm) (WL.nil (Fin.then ?_)))))))))))))))
  have hb58 : (decide (¬ (r28 = 0))) = true := (decide_eq_true (by omega))
  refine Wp.cond1 rfl hb58 (Wp.seq (Wp.region (Mv rfl rfl (Mv rfl rfl ?_))))
  obtain ⟨r64, hr65⟩ : ∃ q, reader_Reader_Fail p0 r28 = q := ⟨_, rfl⟩
  obtain ⟨D59, HP60, ro61, bk62, rr63⟩ := Own.enter1 H32
  refine WL.do rfl (Do.call Tryz.call52 rfl (reader_Reader_Fail_ok _ _ g0 p0 A0x0 c0x0 r28 r64 HP60 (ro61 _ hx0x0) (show p0.xrest.ls.length ≤ c0x0 ∧ p0.xrest.ls.length ≤ 9223372036854775807 from by omega) hr65) ?_)
  rintro _ w66 ⟨A69, c70, rfl, HQ67, hs71⟩
  have H68 := bk62 _ _ HQ67
  replace hs71 : SubS 1 A0x0 c0x0 p0.xrest.ls A69 c70 r64.xrest.ls := hs71
  have hz72 := (hs71).le
  refine WL.nil (Fin.then (Wp.seq (Wp.region (As rfl rfl (WL.nil (Fin.then (Wp.ret (Fin.thenR (Fin.res (res1 rfl rfl) ?_)))))))))
  have H73 := H68.pick [0] (by decide) rfl
  have e : reader_Reader_Num p0 p1 = (0, r64) := Eq.trans (bnd_of hr29) (Eq.trans (if_neg h35) (bnd_of hr65))
  obtain ⟨rfl, rfl⟩ := pj2 (e.symm.trans hr)
  exact ⟨A69, c70, rfl, H73, hs71, (by omega)⟩

def reader_Reader_Text (p0 : ReaderT) (p1 : Int) : (List UInt8) × ReaderT :=
  bnd (octet_ReadText p0.xrest.ls p1) fun yr26 => if yr26.2.2 = 2 then bnd (reader_Reader_Fail p0 11) fun yr40 => ([], yr40) else if yr26.2.2 = 0 then (yr26.1, ReaderT.mk (Ll.mk (List.drop (Int.toNat yr26.2.1) p0.xrest.ls)) p0.xerrno) else bnd (reader_Reader_Fail p0 yr26.2.2) fun yr61 => ([], yr61)

set_option maxRecDepth 100000 in
theorem reader_Reader_Text_ok (w : World) (D : Nat → Prop) (g0 : Nat) (p0 : ReaderT) (A0x0 : Option Addr) (c0x0 : Nat) (p1 : Int) (r0 : List UInt8) (r1 : ReaderT) (H : Own w D w [blk g0 [.slice A0x0 p0.xrest.ls.length c0x0, .int .i64 p0.xerrno] 102]) (hx0x0 : Ro w D fun w' => Rds w' 1 A0x0 p0.xrest.ls.length (List.flatMap eB p0.xrest.ls)) (hb0x0 : p0.xrest.ls.length ≤ c0x0 ∧ p0.xrest.ls.length ≤ 9223372036854775807) (hr : reader_Reader_Text p0 p1 = (r0, r1)) :
    Calls Tryz.prog 85 #[.pointer (some ⟨g0, 0, none⟩), .int .i64 p1] w (Ret fun v w' => ∃ (B1ox0 : Option Addr) (b1ox0 : Nat), v = .string ⟨List.toArray r0⟩ ∧ Own w D w' [blk g0 [.slice B1ox0 r1.xrest.ls.length b1ox0, .int .i64 r1.xerrno] 102] ∧ (SubS 1 A0x0 c0x0 p0.xrest.ls B1ox0 b1ox0 r1.xrest.ls)) := by
  refine Calls.body (args := [.pointer (some ⟨g0, 0, none⟩), .int .i64 p1]) Tryz.func85 rfl rfl rfl ?_
  show Wp _ _ _ [(0, .pointer (some ⟨g0, 0, none⟩)), (1, .int .i64 p1)] _ _
  refine Wp.seq (Wp.region (As rfl rfl (WL.nil (Fin.then (Wp.seq (Wp.region (Mv rfl rfl (Kn (v := .pointer (some ⟨g0, 0, none⟩)) rfl rfl rfl (fun _ => by kernel_rfl) (Kn (v := .pointer (some ⟨g0, 0, none⟩)) rfl rfl rfl (fun _ => by kernel_rfl) (WL.val (v := .slice A0x0 p0.xrest.ls.length c0x0) rfl (Yl.load rfl (Lds.one Tryz.isAgg29 (Cls.of (H.cls (i := 0) rfl) rfl))) (Mv rfl rfl ?_)))))))))))
  obtain ⟨⟨r26, r27, r28⟩, hr29⟩ : ∃ q : (List UInt8) × Int × Int, octet_ReadText p0.xrest.ls p1 = q := ⟨_, rfl⟩
  obtain ⟨D21, HP22, ro23, bk24, rr25⟩ := Own.enter0 H
  refine WL.do rfl (Do.call Tryz.call94 rfl (octet_ReadText_ok _ _ A0x0 p0.xrest.ls.length c0x0 p0.xrest.ls p1 r26 r27 r28 HP22 (ro23 _ hx0x0) rfl (by omega) (by first | omega | (simp only [List.length_take, List.length_drop]; omega)) hr29) ?_)
  rintro _ w30 ⟨rfl, HQ31, hk33⟩
  have H32 := bk24 _ _ HQ31
  replace hk33 : ¬ (r28 = 0) ∨ (1 ≤ r27 ∧ r27 ≤ ((p0.xrest.ls.length : Nat) : Int) ∧ r26.length ≤ p0.xrest.ls.length) := hk33
  refine Mv rfl rfl (Kn (v := .string ⟨List.toArray r26⟩) rfl rfl rfl (fun _ => by kernel_rfl) (Kn (v := .int .i64 r27) rfl rfl rfl (fun _ => by kernel_rfl) (Kn (v := .int .i64 r28) rfl rfl rfl (fun _ => by kernel_rfl) (As rfl rfl (As rfl rfl (As rfl rfl (WL.nil (Fin.then (Wp.seq (Wp.seq (Wp.region (Mv rfl rfl (Kn (v := .bool (decide (r28 = 2))) rfl rfl rfl (fun _ => by kernel_rfl) (WL.nil (Fin.then ?_)))))))))))))))
  by_cases h34 : r28 = 2
  refine Wp.cond1 rfl (decide_eq_true h34) (Wp.region (As rfl rfl (WL.nil (Fin.then (Wp.seq (Wp.seq (Wp.region (Mv rfl rfl (Kn (v := .bool true) rfl rfl rfl (fun _ => by kernel_rfl) (WL.nil (Fin.then (Wp.cond1 rfl rfl (Wp.seq (Wp.region (Mv rfl rfl (Mv rfl rfl ?_))))))))))))))))
  obtain ⟨r40, hr41⟩ : ∃ q, reader_Reader_Fail p0 11 = q := ⟨_, rfl⟩
  obtain ⟨D35, HP36, ro37, bk38, rr39⟩ := Own.enter1 H32
  refine WL.do rfl (Do.call Tryz.call52 rfl (reader_Reader_Fail_ok _ _ g0 p0 A0x0 c0x0 11 r40 HP36 (ro37 _ hx0x0) (show p0.xrest.ls.length ≤ c0x0 ∧ p0.xrest.ls.length ≤ 9223372036854775807 from by omega) hr41) ?_)
  rintro _ w42 ⟨A45, c46, rfl, HQ43, hs47⟩
  have H44 := bk38 _ _ HQ43
  replace hs47 : SubS 1 A0x0 c0x0 p0.xrest.ls A45 c46 r40.xrest.ls := hs47
  have hz48 := (hs47).le
  refine WL.nil (Fin.then (Wp.seq (Wp.region (As rfl rfl (WL.nil (Fin.then (Wp.ret (Fin.thenR (Fin.res (res1 rfl rfl) ?_)))))))))
  have H49 := H44.pick [0] (by decide) rfl
  have e : reader_Reader_Text p0 p1 = ([], r40) := Eq.trans (bnd_of hr29) (Eq.trans (if_pos h34) (bnd_of hr41))
  obtain ⟨rfl, rfl⟩ := pj2 (e.symm.trans hr)
  exact ⟨A45, c46, rfl, H49, hs47⟩
  refine Wp.cond0 rfl (decide_eq_false h34) (Wp.skip (Fin.then (Wp.seq (Wp.seq (Wp.region (Mv rfl rfl (WL.val (v := .bool (decide (¬ (r28 = 0)))) rfl (Yl.bool (e := !(decide (r28 = 0))) (Yl.kern rfl rfl (fun _ => by kernel_rfl)) decide_not.symm) (WL.nil (Fin.then ?_)))))))))
  by_cases h50 : r28 = 0
  refine Wp.cond0 rfl (decide_eq_false (not_not_intro h50)) (Wp.skip (Fin.then (Wp.seq (Wp.region (Mv rfl rfl (Mv rfl rfl (Kn (v := .pointer (some ⟨g0, 0, none⟩)) rfl rfl rfl (fun _ => by kernel_rfl) (Kn (v := .pointer (some ⟨g0, 0, none⟩)) rfl rfl rfl (fun _ => by kernel_rfl) (WL.val (v := .slice A0x0 p0.xrest.ls.length c0x0) rfl (Yl.load rfl (Lds.one Tryz.isAgg29 (Cls.of (H32.cls (i := 0) rfl) rfl))) (WL.val (v := .int .i64 ((Int.toNat r27 : Nat) : Int)) rfl (Yl.int (e := r27) (Yl.move rfl) (by omega)) (WL.val (v := .slice (cutA A0x0 (Int.toNat r27) 1 c0x0) (p0.xrest.ls.length - (Int.toNat r27)) (c0x0 - (Int.toNat r27))) rfl (Yl.cutFrom (El29) rfl rfl (by omega)) (Kn (v := .pointer (some ⟨g0, 0, none⟩)) rfl rfl rfl (fun _ => by kernel_rfl) (Kn (v := .pointer (some ⟨g0, 0, none⟩)) rfl rfl rfl (fun _ => by kernel_rfl) ?_)))))))))))))
  refine WL.do0 (Do.store (vs := [.slice (cutA A0x0 (Int.toNat r27) 1 c0x0) (p0.xrest.ls.length - (Int.toNat r27)) (c0x0 - (Int.toNat r27))]) (o := 0) H32 rfl rfl Tryz.sizeOf29 rfl rfl rfl rfl ?_)
  intro w51 H52
  refine WL.nil (Fin.then (Wp.seq (Wp.region (Mv rfl rfl (As rfl rfl (WL.nil (Fin.then (Wp.ret (Fin.res (res1 rfl rfl) ?_)))))))))
  have hn53 : p0.xrest.ls.length - (Int.toNat r27) = List.length (List.drop (Int.toNat r27) p0.xrest.ls) := by first | omega | (simp only [List.length_drop, List.length_take] <;> omega)
  have H54 : Own w D w51 [blk g0 [.slice (cutA A0x0 (Int.toNat r27) 1 c0x0) (List.length (List.drop (Int.toNat r27) p0.xrest.ls)) (c0x0 - (Int.toNat r27)), .int .i64 p0.xerrno] 102] := by rw [← hn53]; exact H52
  have H55 := H54.pick [0] (by decide) rfl
  have e : reader_Reader_Text p0 p1 = (r26, ReaderT.mk (Ll.mk (List.drop (Int.toNat r27) p0.xrest.ls)) p0.xerrno) := Eq.trans (bnd_of hr29) (Eq.trans (if_neg h34) (if_pos h50))
  obtain ⟨rfl, rfl⟩ := pj2 (e.symm.trans hr)
  exact ⟨cutA A0x0 (Int.toNat r27) 1 c0x0, c0x0 - (Int.toNat r27), (by first | rfl | (rw [← hn53]; done) | (rw [← hn53]; rfl)), H55, (SubS.cut (SubS.refl (by omega)) (by first | omega | (simp only [List.length_drop]; omega)))⟩
  refine Wp.cond1 rfl (decide_eq_true h50) (Wp.seq (Wp.region (Mv rfl rfl (Mv rfl rfl ?_))))
  obtain ⟨r61, hr62⟩ : ∃ q, reader_Reader_Fail p0 r28 = q := ⟨_, rfl⟩
  obtain ⟨D56, HP57, ro58, bk59, rr60⟩ := Own.enter1 H32
  refine WL.do rfl (Do.call Tryz.call52 rfl (reader_Reader_Fail_ok _ _ g0 p0 A0x0 c0x0 r28 r61 HP57 (ro58 _ hx0x0) (show p0.xrest.ls.length ≤ c0x0 ∧ p0.xrest.ls.length ≤ 9223372036854775807 from by omega) hr62) ?_)
  rintro _ w63 ⟨A66, c67, rfl, HQ64, hs68⟩
  have H65 := bk59 _ _ HQ64
  replace hs68 : SubS 1 A0x0 c0x0 p0.xrest.ls A66 c67 r61.xrest.ls := hs68
  have hz69 := (hs68).le
  refine WL.nil (Fin.then (Wp.seq (Wp.region (As rfl rfl (WL.nil (Fin.then (Wp.ret (Fin.thenR (Fin.res (res1 rfl rfl) ?_)))))))))
  have H70 := H65.pick [0] (by decide) rfl
  have e : reader_Reader_Text p0 p1 = ([], r61) := Eq.trans (bnd_of hr29) (Eq.trans (if_neg h34) (Eq.trans (if_neg h50) (bnd_of hr62)))
  obtain ⟨rfl, rfl⟩ := pj2 (e.symm.trans hr)
  exact ⟨A66, c67, rfl, H70, hs68⟩

def reader_Reader_End (p0 : ReaderT) : ReaderT :=
  if ((p0.xrest.ls.length : Nat) : Int) > 0 then bnd (reader_Reader_Fail p0 11) fun yr27 => yr27 else p0

set_option maxRecDepth 100000 in
theorem reader_Reader_End_ok (w : World) (D : Nat → Prop) (g0 : Nat) (p0 : ReaderT) (A0x0 : Option Addr) (c0x0 : Nat) (r0 : ReaderT) (H : Own w D w [blk g0 [.slice A0x0 p0.xrest.ls.length c0x0, .int .i64 p0.xerrno] 102]) (hx0x0 : Ro w D fun w' => Rds w' 1 A0x0 p0.xrest.ls.length (List.flatMap eB p0.xrest.ls)) (hb0x0 : p0.xrest.ls.length ≤ c0x0 ∧ p0.xrest.ls.length ≤ 9223372036854775807) (hr : reader_Reader_End p0 = r0) :
    Calls Tryz.prog 53 #[.pointer (some ⟨g0, 0, none⟩)] w (Ret fun v w' => ∃ (B0ox0 : Option Addr) (b0ox0 : Nat), v = .tuple #[] ∧ Own w D w' [blk g0 [.slice B0ox0 r0.xrest.ls.length b0ox0, .int .i64 r0.xerrno] 102] ∧ (SubS 1 A0x0 c0x0 p0.xrest.ls B0ox0 b0ox0 r0.xrest.ls)) := by
  refine Calls.body (args := [.pointer (some ⟨g0, 0, none⟩)]) Tryz.func53 rfl rfl rfl ?_
  show Wp _ _ _ [(0, .pointer (some ⟨g0, 0, none⟩))] _ _
  refine Wp.seq (Wp.region (Mv rfl rfl (Kn (v := .pointer (some ⟨g0, 0, none⟩)) rfl rfl rfl (fun _ => by kernel_rfl) (Kn (v := .pointer (some ⟨g0, 0, none⟩)) rfl rfl rfl (fun _ => by kernel_rfl) (WL.val (v := .slice A0x0 p0.xrest.ls.length c0x0) rfl (Yl.load rfl (Lds.one Tryz.isAgg29 (Cls.of (H.cls (i := 0) rfl) rfl))) (Kn (v := .int .i64 ((p0.xrest.ls.length : Nat) : Int)) rfl rfl rfl (fun _ => by kernel_rfl) (Kn (v := .bool (decide (((p0.xrest.ls.length : Nat) : Int) > 0))) rfl rfl rfl (fun _ => by kernel_rfl) (WL.nil (Fin.then ?_)))))))))
  by_cases h21 : ((p0.xrest.ls.length : Nat) : Int) > 0
  refine Wp.cond1 rfl (decide_eq_true h21) (Wp.region (Mv rfl rfl ?_))
  obtain ⟨r27, hr28⟩ : ∃ q, reader_Reader_Fail p0 11 = q := ⟨_, rfl⟩
  obtain ⟨D22, HP23, ro24, bk25, rr26⟩ := Own.enter1 H
  refine WL.do rfl (Do.call Tryz.call52 rfl (reader_Reader_Fail_ok _ _ g0 p0 A0x0 c0x0 11 r27 HP23 (ro24 _ hx0x0) (show p0.xrest.ls.length ≤ c0x0 ∧ p0.xrest.ls.length ≤ 9223372036854775807 from by omega) hr28) ?_)
  rintro _ w29 ⟨A32, c33, rfl, HQ30, hs34⟩
  have H31 := bk25 _ _ HQ30
  replace hs34 : SubS 1 A0x0 c0x0 p0.xrest.ls A32 c33 r27.xrest.ls := hs34
  have hz35 := (hs34).le
  refine WL.nil (Fin.res0 (res0 rfl) ?_)
  have H36 := H31.pick [0] (by decide) rfl
  have e : reader_Reader_End p0 = r27 := Eq.trans (if_pos h21) (bnd_of hr28)
  obtain rfl := e.symm.trans hr
  exact ⟨A32, c33, rfl, H36, hs34⟩
  refine Wp.cond0 rfl (decide_eq_false h21) (Wp.skip (Fin.res0 (res0 rfl) ?_))
  have H37 : Own w D w [blk g0 [.slice A0x0 p0.xrest.ls.length c0x0, .int .i64 p0.xerrno] 102] := H.pick [0] (by decide) rfl
  have e : reader_Reader_End p0 = p0 := if_neg h21
  obtain rfl := e.symm.trans hr
  exact ⟨A0x0, c0x0, rfl, H37, (SubS.refl (by omega))⟩

def reader_Reader_Err (p0 : ReaderT) : Int :=
  p0.xerrno

set_option maxRecDepth 100000 in
theorem reader_Reader_Err_ok (w : World) (D : Nat → Prop) (g0 : Nat) (p0 : ReaderT) (A0x0 : Option Addr) (c0x0 : Nat) (r0 : Int) (H : Own w D w [blk g0 [.slice A0x0 p0.xrest.ls.length c0x0, .int .i64 p0.xerrno] 102]) (hx0x0 : Ro w D fun w' => Rds w' 1 A0x0 p0.xrest.ls.length (List.flatMap eB p0.xrest.ls)) (hb0x0 : p0.xrest.ls.length ≤ c0x0 ∧ p0.xrest.ls.length ≤ 9223372036854775807) (hr : reader_Reader_Err p0 = r0) :
    Calls Tryz.prog 54 #[.pointer (some ⟨g0, 0, none⟩)] w (Ret fun v w' => v = .int .i64 r0 ∧ Own w D w' [blk g0 [.slice A0x0 p0.xrest.ls.length c0x0, .int .i64 p0.xerrno] 102]) := by
  refine Calls.body (args := [.pointer (some ⟨g0, 0, none⟩)]) Tryz.func54 rfl rfl rfl ?_
  show Wp _ _ _ [(0, .pointer (some ⟨g0, 0, none⟩))] _ _
  refine Wp.seq (Wp.region (As rfl rfl (WL.nil (Fin.then (Wp.seq (Wp.region (Mv rfl rfl (Kn (v := .pointer (some ⟨g0, 0, none⟩)) rfl rfl rfl (fun _ => by kernel_rfl) (Kn (v := .pointer (some ⟨g0, 1, none⟩)) rfl rfl rfl (fun _ => by kernel_rfl) (WL.val (v := .int .i64 p0.xerrno) rfl (Yl.load rfl (Lds.one Tryz.isAgg30 (Cls.of (H.cls (i := 0) rfl) rfl))) (As rfl rfl (WL.nil (Fin.then (Wp.ret (Fin.res (res1 rfl rfl) ?_)))))))))))))))
  have H21 : Own w D w [blk g0 [.slice A0x0 p0.xrest.ls.length c0x0, .int .i64 p0.xerrno] 102] := H.pick [0] (by decide) rfl
  have e : reader_Reader_Err p0 = p0.xerrno := rfl
  obtain rfl := e.symm.trans hr
  exact ⟨rfl, H21⟩
end Go.Proofs.YtfkkipmdnjfocaaGreat
