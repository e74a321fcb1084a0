/-
  node: the reference reads.
-/
import Derived.Test.YtfkkipmdnjfocaaGreatDn
namespace Go.Proofs.YtfkkipmdnjfocaaGreat
open Go.RowKit
set_option linter.unusedVariables false
set_option linter.unusedSectionVars false
set_option linter.unusedSimpArgs false

def r01_ReadNum_L1 (l0 : List UInt8) (k21 : Nat) : Nat → Nat → Int → Nat
  | 0, k37, z38 => default
  | q39 + 1, k37, z38 => if z38 ≥ 0 then bnd (List.getD l0 (Int.toNat z38) default) fun yx53 => r01_ReadNum_L1 l0 k21 q39 (Int.toNat (IntKind.u64.wrap (((Int.toNat (IntKind.u64.wrap (((k37 : Nat) : Int) * 128)) : Nat) : Int) + ((yx53.toNat % 128 : Nat) : Int)))) (z38 - 1) else k37

def r01_ReadNum_L0 (l0 : List UInt8) : List UInt8 → Nat → Unit ⊕ (Nat × Int × Int)
  | [], k21 => Sum.inl ()
  | x31 :: q22, k21 => if ((k21 : Nat) : Int) < 10 then if ((x31.toNat : Nat) : Int) ≥ 128 then r01_ReadNum_L0 l0 q22 (k21 + 1) else bnd (r01_ReadNum_L1 l0 k21 ((Int.toNat (((k21 : Nat) : Int) + 1)) + 1) 0 ((k21 : Nat) : Int)) fun sLrJjLstfL => bnd (r01_Num sLrJjLstfL) fun yr65 => if yr65 ≠ (List.take (k21 + 1) l0) then Sum.inr (0, 0, 11) else Sum.inr (sLrJjLstfL, ((k21 + 1 : Nat) : Int), 0) else Sum.inl ()

def r01_ReadNum (l0 : List UInt8) : Nat × Int × Int :=
  lp (lpS (r01_ReadNum_L0 l0 l0 0) fun _ => Sum.inl ()) fun _ => if ((l0.length : Nat) : Int) ≥ 10 then (0, 0, 11) else (0, 0, 10)

set_option maxRecDepth 100000 in
theorem r01_ReadNum_ok (w : World) (D : Nat → Prop) (A0 : Option Addr) (n0 c0 : Nat) (l0 : List UInt8) (r0 : Nat) (r1 : Int) (r2 : Int) (H : Own w D w []) (hx0 : Ro w D fun w' => Rds w' 1 A0 n0 (List.flatMap eB l0)) (hn0 : n0 = l0.length) (hl0 : l0.length ≤ 9223372036854775807) (hq0 : l0.length ≤ c0) (hr : r01_ReadNum l0 = (r0, r1, r2)) :
    Calls Tryz.prog 77 #[.slice A0 n0 c0] w (Ret fun v w' => v = .tuple #[.int .u64 ((r0 : Nat) : Int), .int .i64 r1, .int .i64 r2] ∧ Own w D w' [] ∧ (¬ (r2 = 0) ∨ (1 ≤ r1 ∧ r1 ≤ 10 ∧ r1 ≤ ((l0.length : Nat) : Int))) ∧ (r0 ≤ 18446744073709551615)) := by
  subst hn0
  refine Calls.body (args := [.slice A0 l0.length c0]) Tryz.func77 rfl rfl rfl ?_
  show Wp _ _ _ [(0, .slice A0 l0.length c0)] _ _
  refine Wp.seq (Wp.region (As rfl rfl (As rfl rfl (As rfl rfl (WL.nil (Fin.then (Wp.seq (Wp.seq (Wp.region (As rfl rfl (WL.nil (Fin.then ?_))))))))))))
  refine Wp.joinT (ι := Unit) (fun _ => [(2, .int .u64 0), (3, .int .i64 0), (4, .int .i64 0), (0, .slice A0 l0.length c0)]) (fun (_ : Unit) w' => Own w D w' [] ∧ ((lpS (r01_ReadNum_L0 l0 l0 0) fun _ => Sum.inl ()) = Sum.inl ())) ?_ ?_
  refine Wp.block ?_
  have H23 : Own w D w [] := H.pick [] (by decide) rfl
  refine Wp.loop (ι := Nat) (fun i => [(2, .int .u64 0), (3, .int .i64 0), (4, .int .i64 0), (5, .int .i64 ((i : Nat) : Int)), (0, .slice A0 l0.length c0)]) (fun (i : Nat) w' => Own w D w' [] ∧ (i ≤ l0.length ∧ i ≤ 10 ∧ r01_ReadNum_L0 l0 l0 0 = r01_ReadNum_L0 l0 (List.drop i l0) i)) (fun i => l0.length - i) 0 ⟨rfl, rfl, rfl, rfl, rfl, trivial⟩ ⟨H23, (show 0 ≤ l0.length ∧ 0 ≤ 10 ∧ r01_ReadNum_L0 l0 l0 0 = r01_ReadNum_L0 l0 (List.drop 0 l0) 0 from ⟨by omega, by omega, rfl⟩)⟩ ?_
  rintro k21 w24 ⟨H25, hf26⟩
  show Wp _ _ _ [(2, .int .u64 0), (3, .int .i64 0), (4, .int .i64 0), (5, .int .i64 ((k21 : Nat) : Int)), (0, .slice A0 l0.length c0)] _ _
  replace hf26 : k21 ≤ l0.length ∧ k21 ≤ 10 ∧ r01_ReadNum_L0 l0 l0 0 = r01_ReadNum_L0 l0 (List.drop k21 l0) k21 := hf26
  obtain ⟨hi28, hi29, hq27⟩ := hf26
  refine Wp.seq (Wp.seq (Wp.region (Mv rfl rfl (Mv rfl rfl (Kn (v := .int .i64 ((l0.length : Nat) : Int)) rfl rfl rfl (fun _ => by kernel_rfl) (Kn (v := .bool (decide (((k21 : Nat) : Int) < ((l0.length : Nat) : Int)))) rfl rfl rfl (fun _ => by kernel_rfl) (Mv rfl rfl ?_)))))))
  by_cases h30 : ((k21 : Nat) : Int) < ((l0.length : Nat) : Int)
  obtain ⟨x31, hx32⟩ := rds_at (ls := l0) (i := k21) eB_len (by decide) (H25.ro hx0) (by first | omega | (simp; done) | (simp; omega))
  have hd33 := drop_at hx32
  refine WL.valG (v := .int .i64 ((k21 : Nat) : Int)) rfl rfl (decide_eq_true h30) rfl (Yl.move rfl) (WL.valG (v := .bool (decide (((k21 : Nat) : Int) < 10))) rfl rfl (decide_eq_true h30) rfl (Yl.kern rfl rfl (fun _ => by kernel_rfl)) (WL.val (v := .bool (decide (((k21 : Nat) : Int) < 10))) rfl (Yl.pickT rfl (decide_eq_true h30) rfl) (WL.nil (Fin.then ?_))))
  by_cases h34 : ((k21 : Nat) : Int) < 10
  refine Wp.cond1 rfl (decide_eq_true h34) (Wp.skip (Fin.then (Wp.seq (Wp.block (Wp.seq (Wp.seq (Wp.region (Mv rfl rfl (Mv rfl rfl (WL.val (v := .pointer (some ⟨ab A0, ao A0 + k21 * 1, none⟩)) rfl (Yl.indexAddr (El29) rfl rfl ((H25.ro hx0).addr (i := k21) (by omega)) (by omega)) (WL.val (v := .int .u8 ((x31.toNat : Nat) : Int)) rfl (Yl.load rfl (Lds.one Tryz.isAgg5 (((H25.ro hx0).elem eB_len hx32 (by decide)).at_ (k := 0) rfl))) (Kn (v := .bool (decide (((x31.toNat : Nat) : Int) ≥ 128))) rfl rfl rfl (fun _ => by kernel_rfl) (WL.nil (Fin.then ?_))))))))))))))
  by_cases h35 : ((x31.toNat : Nat) : Int) ≥ 128
  refine Wp.cond1 rfl (decide_eq_true h35) (Wp.exit (Fin.thenX (Fin.blockX (Fin.then (Wp.region (Mv rfl rfl (WL.val (v := .int .i64 ((k21 + 1 : Nat) : Int)) rfl (Yl.int (e := IntKind.i64.wrap (((k21 : Nat) : Int) + 1)) (Yl.kern rfl rfl (fun _ => by kernel_rfl)) (by rw [IntWalk.i64_in _ (by omega)]; omega)) (As rfl rfl (WL.nil ?_)))))))))
  have H36 := H25.pick [] (by decide) rfl
  exact Fin.round (k21 + 1) ⟨rfl, rfl, rfl, rfl, rfl, trivial⟩ ⟨H36, (show (k21 + 1) ≤ l0.length ∧ (k21 + 1) ≤ 10 ∧ r01_ReadNum_L0 l0 l0 0 = r01_ReadNum_L0 l0 (List.drop (k21 + 1) l0) (k21 + 1) from ⟨by omega, by omega, Eq.trans (hq27) (Eq.trans (congrArg (fun q => r01_ReadNum_L0 l0 q k21) hd33) (Eq.trans (if_pos h34) (if_pos h35)))⟩)⟩ (by show l0.length - (k21 + 1) < l0.length - k21; omega)
  refine Wp.cond0 rfl (decide_eq_false h35) (Wp.skip (Fin.then (Wp.seq (Wp.region (As rfl rfl (WL.nil (Fin.then (Wp.seq (Wp.seq (Wp.region (Mv rfl rfl (As rfl rfl (WL.nil (Fin.then (Wp.block ?_)))))))))))))))
  have H41 := H25.pick [] (by decide) rfl
  refine Wp.loop (ι := Nat × Int × Nat) (fun i => [(6, .int .u64 ((i.1 : Nat) : Int)), (7, .int .i64 i.2.1), (23, .int .i64 ((k21 : Nat) : Int)), (22, .bool (decide (((x31.toNat : Nat) : Int) ≥ 128))), (21, .int .u8 ((x31.toNat : Nat) : Int)), (20, .pointer (some ⟨ab A0, ao A0 + k21 * 1, none⟩)), (19, .int .i64 ((k21 : Nat) : Int)), (18, .slice A0 l0.length c0), (15, .bool (decide (((k21 : Nat) : Int) < 10))), (14, .bool (decide (((k21 : Nat) : Int) < 10))), (13, .int .i64 ((k21 : Nat) : Int)), (12, .bool (decide (((k21 : Nat) : Int) < ((l0.length : Nat) : Int)))), (11, .bool (decide (((k21 : Nat) : Int) < ((l0.length : Nat) : Int)))), (10, .int .i64 ((l0.length : Nat) : Int)), (9, .slice A0 l0.length c0), (8, .int .i64 ((k21 : Nat) : Int)), (2, .int .u64 0), (3, .int .i64 0), (4, .int .i64 0), (5, .int .i64 ((k21 : Nat) : Int)), (0, .slice A0 l0.length c0)]) (fun (i : Nat × Int × Nat) w' => Own w D w' [] ∧ (-1 ≤ i.2.1 ∧ i.2.1 < ((l0.length : Nat) : Int) ∧ i.1 ≤ 18446744073709551615 ∧ Int.toNat (i.2.1 + 1) < i.2.2 ∧ r01_ReadNum_L1 l0 k21 ((Int.toNat (((k21 : Nat) : Int) + 1)) + 1) 0 ((k21 : Nat) : Int) = r01_ReadNum_L1 l0 k21 i.2.2 i.1 i.2.1)) (fun i => i.2.2) (0, ((k21 : Nat) : Int), (Int.toNat (((k21 : Nat) : Int) + 1)) + 1) ⟨rfl, rfl, rfl, rfl, rfl, rfl, rfl, rfl, rfl, rfl, rfl, rfl, rfl, rfl, rfl, rfl, rfl, rfl, rfl, rfl, rfl, trivial⟩ ⟨H41, (show -1 ≤ ((k21 : Nat) : Int) ∧ ((k21 : Nat) : Int) < ((l0.length : Nat) : Int) ∧ 0 ≤ 18446744073709551615 ∧ Int.toNat (((k21 : Nat) : Int) + 1) < ((Int.toNat (((k21 : Nat) : Int) + 1)) + 1) ∧ r01_ReadNum_L1 l0 k21 ((Int.toNat (((k21 : Nat) : Int) + 1)) + 1) 0 ((k21 : Nat) : Int) = r01_ReadNum_L1 l0 k21 ((Int.toNat (((k21 : Nat) : Int) + 1)) + 1) 0 ((k21 : Nat) : Int) from ⟨by omega, by omega, by first | exact Nat.zero_le _ | exact wrapN_u64 _ | omega, by omega, rfl⟩)⟩ ?_
  rintro ⟨k37, z38, f40⟩ w42 ⟨H43, hf44⟩
  show Wp _ _ _ [(6, .int .u64 ((k37 : Nat) : Int)), (7, .int .i64 z38), (23, .int .i64 ((k21 : Nat) : Int)), (22, .bool (decide (((x31.toNat : Nat) : Int) ≥ 128))), (21, .int .u8 ((x31.toNat : Nat) : Int)), (20, .pointer (some ⟨ab A0, ao A0 + k21 * 1, none⟩)), (19, .int .i64 ((k21 : Nat) : Int)), (18, .slice A0 l0.length c0), (15, .bool (decide (((k21 : Nat) : Int) < 10))), (14, .bool (decide (((k21 : Nat) : Int) < 10))), (13, .int .i64 ((k21 : Nat) : Int)), (12, .bool (decide (((k21 : Nat) : Int) < ((l0.length : Nat) : Int)))), (11, .bool (decide (((k21 : Nat) : Int) < ((l0.length : Nat) : Int)))), (10, .int .i64 ((l0.length : Nat) : Int)), (9, .slice A0 l0.length c0), (8, .int .i64 ((k21 : Nat) : Int)), (2, .int .u64 0), (3, .int .i64 0), (4, .int .i64 0), (5, .int .i64 ((k21 : Nat) : Int)), (0, .slice A0 l0.length c0)] _ _
  replace hf44 : -1 ≤ z38 ∧ z38 < ((l0.length : Nat) : Int) ∧ k37 ≤ 18446744073709551615 ∧ Int.toNat (z38 + 1) < f40 ∧ r01_ReadNum_L1 l0 k21 ((Int.toNat (((k21 : Nat) : Int) + 1)) + 1) 0 ((k21 : Nat) : Int) = r01_ReadNum_L1 l0 k21 f40 k37 z38 := hf44
  obtain ⟨hi46, hi47, hi48, hi49, hq45⟩ := hf44
  obtain ⟨f50, hf51⟩ : ∃ q, f40 = q + 1 := ⟨f40 - 1, by omega⟩
  subst hf51
  refine Wp.seq (Wp.seq (Wp.region (Mv rfl rfl (Kn (v := .bool (decide (z38 ≥ 0))) rfl rfl rfl (fun _ => by kernel_rfl) (WL.nil (Fin.then ?_))))))
  by_cases h52 : z38 ≥ 0
  refine Wp.cond1 rfl (decide_eq_true h52) (Wp.skip (Fin.then (Wp.seq (Wp.block (Wp.region (Mv rfl rfl (WL.val (v := .int .u64 ((Int.toNat (IntKind.u64.wrap (((k37 : Nat) : Int) * 128)) : Nat) : Int)) rfl (Yl.int (e := IntKind.u64.wrap (((k37 : Nat) : Int) * 128)) (Yl.kern rfl rfl (fun _ => by kernel_rfl)) (wrap_nat_u64 _)) (Mv rfl rfl (WL.val (v := .int .i64 ((Int.toNat z38 : Nat) : Int)) rfl (Yl.int (e := z38) (Yl.move rfl) (by omega)) ?_)))))))))
  obtain ⟨x53, hx54⟩ := rds_at (ls := l0) (i := Int.toNat z38) eB_len (by decide) (H43.ro hx0) (by first | omega | (simp; done) | (simp; omega))
  refine WL.val (v := .pointer (some ⟨ab A0, ao A0 + (Int.toNat z38) * 1, none⟩)) rfl (Yl.indexAddr (El29) rfl rfl ((H43.ro hx0).addr (i := Int.toNat z38) (by omega)) (by omega)) (WL.val (v := .int .u8 ((x53.toNat : Nat) : Int)) rfl (Yl.load rfl (Lds.one Tryz.isAgg5 (((H43.ro hx0).elem eB_len hx54 (by decide)).at_ (k := 0) rfl))) (WL.val (v := .int .u8 ((x53.toNat % 128 : Nat) : Int)) rfl (Yl.int (e := Int.tmod ((x53.toNat : Nat) : Int) 128) (Yl.kern rfl rfl (fun _ => by kernel_rfl)) (tmodN _ _)) ?_))
  have hz55 : x53.toNat % 128 ≤ 255 := by have q9 := UInt8.toNat_lt x53; omega
  refine WL.val (v := .int .u64 ((x53.toNat % 128 : Nat) : Int)) rfl (Yl.int (e := IntKind.u64.wrap ((x53.toNat % 128 : Nat) : Int)) (Yl.kern rfl rfl (fun _ => by kernel_rfl)) (IntWalk.u64_in _ (by omega))) (WL.val (v := .int .u64 ((Int.toNat (IntKind.u64.wrap (((Int.toNat (IntKind.u64.wrap (((k37 : Nat) : Int) * 128)) : Nat) : Int) + ((x53.toNat % 128 : Nat) : Int))) : Nat) : Int)) rfl (Yl.int (e := IntKind.u64.wrap (((Int.toNat (IntKind.u64.wrap (((k37 : Nat) : Int) * 128)) : Nat) : Int) + ((x53.toNat % 128 : Nat) : Int))) (Yl.kern rfl rfl (fun _ => by kernel_rfl)) (wrap_nat_u64 _)) (As rfl rfl (WL.nil (Fin.blockN (Fin.then (Wp.region (Mv rfl rfl (WL.val (v := .int .i64 (z38 - 1)) rfl (Yl.int (e := IntKind.i64.wrap (z38 - 1)) (Yl.kern rfl rfl (fun _ => by kernel_rfl)) (by rw [IntWalk.i64_in _ (by omega)])) (As rfl rfl (WL.nil ?_))))))))))
  have H56 := H43.pick [] (by decide) rfl
  exact Fin.round (Int.toNat (IntKind.u64.wrap (((Int.toNat (IntKind.u64.wrap (((k37 : Nat) : Int) * 128)) : Nat) : Int) + ((x53.toNat % 128 : Nat) : Int))), z38 - 1, f50) ⟨rfl, rfl, rfl, rfl, rfl, rfl, rfl, rfl, rfl, rfl, rfl, rfl, rfl, rfl, rfl, rfl, rfl, rfl, rfl, rfl, rfl, trivial⟩ ⟨H56, (show -1 ≤ (z38 - 1) ∧ (z38 - 1) < ((l0.length : Nat) : Int) ∧ (Int.toNat (IntKind.u64.wrap (((Int.toNat (IntKind.u64.wrap (((k37 : Nat) : Int) * 128)) : Nat) : Int) + ((x53.toNat % 128 : Nat) : Int)))) ≤ 18446744073709551615 ∧ Int.toNat ((z38 - 1) + 1) < f50 ∧ r01_ReadNum_L1 l0 k21 ((Int.toNat (((k21 : Nat) : Int) + 1)) + 1) 0 ((k21 : Nat) : Int) = r01_ReadNum_L1 l0 k21 f50 (Int.toNat (IntKind.u64.wrap (((Int.toNat (IntKind.u64.wrap (((k37 : Nat) : Int) * 128)) : Nat) : Int) + ((x53.toNat % 128 : Nat) : Int)))) (z38 - 1) from ⟨by omega, by omega, by first | exact Nat.zero_le _ | exact wrapN_u64 _ | omega, by omega, Eq.trans (hq45) (Eq.trans (if_pos h52) (bnd_of (getD_of hx54)))⟩)⟩ (by show f50 < f50 + 1; omega)
  refine Wp.cond0 rfl (decide_eq_false h52) (Wp.exit (Fin.thenX ?_))
  have hL57 : r01_ReadNum_L1 l0 k21 ((Int.toNat (((k21 : Nat) : Int) + 1)) + 1) 0 ((k21 : Nat) : Int) = k37 := Eq.trans (hq45) (if_neg h52)
  refine Fin.thenX (Fin.blockX (Fin.then (Wp.seq (Wp.seq ?_))))
  have H59 := H43.drew
  refine Wp.drawnX [] (fun W => ∃ L', Own w D W ([] ++ L')) (by kernel_rfl) (by kernel_rfl) (NoP.then (NoP.then (NoP.block (NoP.then (NoP.then (NoP.block (NoP.then NoP.base))))))) ⟨_, H59⟩ ?_
  revert H59
  generalize World.drew w42 = w58
  intro H59
  refine GX.take (v := .int .u64 ((k37 : Nat) : Int)) (rs := []) 0 rfl (by kernel_rfl) (fun _ _ => Yl.move rfl) (GX.take (v := .slice A0 l0.length c0) (rs := []) 3 rfl (by kernel_rfl) (fun _ _ => Yl.move rfl) (GX.take (v := .int .i64 ((k21 : Nat) : Int)) (rs := []) 4 rfl (by kernel_rfl) (fun _ _ => Yl.move rfl) (GX.take (v := .int .i64 ((k21 + 1 : Nat) : Int)) (rs := []) 5 rfl (by kernel_rfl) (fun _ _ => Yl.int (e := IntKind.i64.wrap (((k21 : Nat) : Int) + 1)) (Yl.kern rfl rfl (fun _ => by kernel_rfl)) (by rw [IntWalk.i64_in _ (by omega)]; omega)) (GX.take (v := .slice A0 (k21 + 1) c0) (rs := []) 6 rfl (by kernel_rfl) (fun _ _ => Yl.cutTo (El29) rfl rfl (by omega)) (GX.take (v := .string ⟨List.toArray (List.take (k21 + 1) l0)⟩) (rs := []) 7 rfl (by kernel_rfl) (fun _ ⟨_, H9⟩ => Yl.toStringE (l := (List.take (k21 + 1) l0)) Tryz.underlying29 Tryz.underlying5 Tryz.underlying9 (Rds.toE (hi := k21 + 1) eB_len (H9.ro hx0) (by omega)) rfl) ?_)))))
  obtain ⟨r65, hr66⟩ : ∃ q, r01_Num k37 = q := ⟨_, rfl⟩
  obtain ⟨D60, HP61, ro62, bk63, rr64⟩ := Own.enter0 H59
  refine GX.do 1 rfl (by kernel_rfl) (Do.call Tryz.call41 rfl (r01_Num_ok _ _ k37 r65 HP61 (by omega) hr66) ?_)
  rintro _ w67 ⟨A70, c71, rfl, HQ68, hk72, hk73⟩
  have H69 := bk63 _ _ HQ68
  have hb74 := H69.rowC (i := 0) rfl
  replace hk72 : RecN k37 r65.length := hk72
  replace hk73 : 1 ≤ r65.length ∧ r65.length ≤ 10 := hk73
  refine ⟨.inr ⟨_, H69⟩, ?_⟩
  refine GX.more (Good' := fun W => ∃ L', Own w D W ([row A70 r65.length c71 (List.flatMap eB r65) 5 1] ++ L')) (fun _ ⟨L', h⟩ => ⟨[row A70 r65.length c71 (List.flatMap eB r65) 5 1] ++ L', h⟩) ⟨_, H69⟩ (GX.take (v := .string ⟨List.toArray r65⟩) (rs := []) 2 rfl (by kernel_rfl) (fun _ ⟨_, H9⟩ => Yl.toStringE (l := r65) Tryz.underlying29 Tryz.underlying5 Tryz.underlying9 (H9.rds (i := 0) rfl) rfl) (GX.take (v := .bool (decide (r65 ≠ (List.take (k21 + 1) l0)))) (rs := []) 8 rfl (by kernel_rfl) (fun _ _ => Yl.strNe rfl rfl) (GX.done (by kernel_rfl) (Fin.then ?_))))
  by_cases h75 : r65 ≠ (List.take (k21 + 1) l0)
  refine Wp.cond1 rfl (decide_eq_true h75) (Wp.seq (Wp.region (As rfl rfl (As rfl rfl (As rfl rfl (WL.nil (Fin.then (Wp.ret (Fin.thenR (Fin.blockR (Fin.thenR (Fin.thenR (Fin.blockR (Fin.thenR (Fin.res (res3 rfl rfl rfl rfl) ?_)))))))))))))))
  have H76 := H69.pick [] (by decide) rfl
  have e : r01_ReadNum l0 = (0, 0, 11) := lp_r (lpS_r (Eq.trans (hq27) (Eq.trans (congrArg (fun q => r01_ReadNum_L0 l0 q k21) hd33) (Eq.trans (if_pos h34) (Eq.trans (if_neg h35) (Eq.trans (bnd_of hL57) (Eq.trans (bnd_of hr66) (if_pos h75))))))))
  obtain ⟨rfl, rfl, rfl⟩ := pj3 (e.symm.trans hr)
  exact ⟨rfl, H76, (by omega), (by omega)⟩
  refine Wp.cond0 rfl (decide_eq_false h75) (Wp.skip (Fin.then (Wp.seq (Wp.region (Mv rfl rfl (Mv rfl rfl (WL.val (v := .int .i64 ((k21 + 1 : Nat) : Int)) rfl (Yl.int (e := IntKind.i64.wrap (((k21 : Nat) : Int) + 1)) (Yl.kern rfl rfl (fun _ => by kernel_rfl)) (by rw [IntWalk.i64_in _ (by omega)]; omega)) (As rfl rfl (As rfl rfl (As rfl rfl (WL.nil (Fin.then (Wp.ret (Fin.blockR (Fin.thenR (Fin.thenR (Fin.blockR (Fin.thenR (Fin.res (res3 rfl rfl rfl rfl) ?_)))))))))))))))))))
  have H77 := H69.pick [] (by decide) rfl
  have e : r01_ReadNum l0 = (k37, ((k21 + 1 : Nat) : Int), 0) := lp_r (lpS_r (Eq.trans (hq27) (Eq.trans (congrArg (fun q => r01_ReadNum_L0 l0 q k21) hd33) (Eq.trans (if_pos h34) (Eq.trans (if_neg h35) (Eq.trans (bnd_of hL57) (Eq.trans (bnd_of hr66) (if_neg h75))))))))
  obtain ⟨rfl, rfl, rfl⟩ := pj3 (e.symm.trans hr)
  exact ⟨rfl, H77, (by omega), (by omega)⟩
  refine Wp.cond0 rfl (decide_eq_false h34) (Wp.exit (Fin.thenX (Fin.thenX (Fin.blockX ?_))))
  have H78 := H25.pick [] (by decide) rfl
  exact Fin.join () ⟨rfl, rfl, rfl, rfl, trivial⟩ ⟨H78, (show (lpS (r01_ReadNum_L0 l0 l0 0) fun _ => Sum.inl ()) = Sum.inl () from lpS_l (Eq.trans (hq27) (Eq.trans (congrArg (fun q => r01_ReadNum_L0 l0 q k21) hd33) (if_neg h34))))⟩
  refine Sk rfl rfl (decide_eq_false h30) rfl (Sk rfl rfl (decide_eq_false h30) rfl (WL.val (v := .bool false) rfl (Yl.pickF rfl (decide_eq_false h30) rfl) (WL.nil (Fin.then (Wp.cond0 rfl rfl (Wp.exit (Fin.thenX (Fin.thenX (Fin.blockX ?_)))))))))
  have H79 := H25.pick [] (by decide) rfl
  exact Fin.join () ⟨rfl, rfl, rfl, rfl, trivial⟩ ⟨H79, (show (lpS (r01_ReadNum_L0 l0 l0 0) fun _ => Sum.inl ()) = Sum.inl () from lpS_l (Eq.trans (hq27) (Eq.trans (congrArg (fun q => r01_ReadNum_L0 l0 q k21) (drop_end (ls := l0) (i := k21) (by omega))) rfl)))⟩
  rintro _ w80 ⟨H81, hf82⟩
  show Wp _ _ _ [(2, .int .u64 0), (3, .int .i64 0), (4, .int .i64 0), (0, .slice A0 l0.length c0)] _ _
  replace hf82 : (lpS (r01_ReadNum_L0 l0 l0 0) fun _ => Sum.inl ()) = Sum.inl () := hf82
  have hj83 := hf82
  refine Wp.seq (Wp.seq (Wp.region (Mv rfl rfl (Kn (v := .int .i64 ((l0.length : Nat) : Int)) rfl rfl rfl (fun _ => by kernel_rfl) (Kn (v := .bool (decide (((l0.length : Nat) : Int) ≥ 10))) rfl rfl rfl (fun _ => by kernel_rfl) (WL.nil (Fin.then ?_)))))))
  by_cases h84 : ((l0.length : Nat) : Int) ≥ 10
  refine Wp.cond1 rfl (decide_eq_true h84) (Wp.seq (Wp.region (As rfl rfl (As rfl rfl (As rfl rfl (WL.nil (Fin.then (Wp.ret (Fin.thenR (Fin.res (res3 rfl rfl rfl rfl) ?_))))))))))
  have H85 := H81.pick [] (by decide) rfl
  have e : r01_ReadNum l0 = (0, 0, 11) := Eq.trans (lp_l hj83) (if_pos h84)
  obtain ⟨rfl, rfl, rfl⟩ := pj3 (e.symm.trans hr)
  exact ⟨rfl, H85, (by omega), (by omega)⟩
  refine Wp.cond0 rfl (decide_eq_false h84) (Wp.skip (Fin.then (Wp.seq (Wp.region (As rfl rfl (As rfl rfl (As rfl rfl (WL.nil (Fin.then (Wp.ret (Fin.res (res3 rfl rfl rfl rfl) ?_)))))))))))
  have H86 := H81.pick [] (by decide) rfl
  have e : r01_ReadNum l0 = (0, 0, 10) := Eq.trans (lp_l hj83) (if_neg h84)
  obtain ⟨rfl, rfl, rfl⟩ := pj3 (e.symm.trans hr)
  exact ⟨rfl, H86, (by omega), (by omega)⟩

def r01_ReadText (l0 : List UInt8) (p1 : Int) : (List UInt8) × Int × Int :=
  bnd (r01_ReadNum l0) fun yr26 => if yr26.2.2 = 0 then if p1 < 0 then ([], 0, 2) else if ((yr26.1 : Nat) : Int) > ((Int.toNat (IntKind.u64.wrap p1) : Nat) : Int) then ([], 0, 2) else if ((yr26.1 : Nat) : Int) > ((Int.toNat (((l0.length : Nat) : Int) - yr26.2.1) : Nat) : Int) then ([], 0, 10) else ((List.take ((Int.toNat (yr26.2.1 + ((yr26.1 : Nat) : Int))) - (Int.toNat yr26.2.1)) (List.drop (Int.toNat yr26.2.1) l0)), yr26.2.1 + ((yr26.1 : Nat) : Int), 0) else ([], 0, yr26.2.2)

set_option maxRecDepth 100000 in
theorem r01_ReadText_ok (w : World) (D : Nat → Prop) (A0 : Option Addr) (n0 c0 : Nat) (l0 : List UInt8) (p1 : Int) (r0 : List UInt8) (r1 : Int) (r2 : Int) (H : Own w D w []) (hx0 : Ro w D fun w' => Rds w' 1 A0 n0 (List.flatMap eB l0)) (hn0 : n0 = l0.length) (hl0 : l0.length ≤ 9223372036854775807) (hq0 : l0.length ≤ c0) (hr : r01_ReadText l0 p1 = (r0, r1, r2)) :
    Calls Tryz.prog 78 #[.slice A0 n0 c0, .int .i64 p1] w (Ret fun v w' => v = .tuple #[.string ⟨List.toArray r0⟩, .int .i64 r1, .int .i64 r2] ∧ Own w D w' [] ∧ (¬ (r2 = 0) ∨ (1 ≤ r1 ∧ r1 ≤ ((l0.length : Nat) : Int) ∧ r0.length ≤ l0.length))) := by
  subst hn0
  refine Calls.body (args := [.slice A0 l0.length c0, .int .i64 p1]) Tryz.func78 rfl rfl rfl ?_
  show Wp _ _ _ [(0, .slice A0 l0.length c0), (1, .int .i64 p1)] _ _
  refine Wp.seq (Wp.region (As rfl rfl (As rfl rfl (As rfl rfl (WL.nil (Fin.then (Wp.seq (Wp.region (Mv rfl rfl ?_)))))))))
  obtain ⟨⟨r26, r27, r28⟩, hr29⟩ : ∃ q : Nat × Int × Int, r01_ReadNum l0 = q := ⟨_, rfl⟩
  obtain ⟨D21, HP22, ro23, bk24, rr25⟩ := Own.enter0 H
  refine WL.do rfl (Do.call Tryz.call77 rfl (r01_ReadNum_ok _ _ A0 l0.length c0 l0 r26 r27 r28 HP22 (ro23 _ hx0) rfl (by omega) (by first | omega | (simp only [List.length_take, List.length_drop]; omega)) hr29) ?_)
  rintro _ w30 ⟨rfl, HQ31, hk33, hk34⟩
  have H32 := bk24 _ _ HQ31
  replace hk33 : ¬ (r28 = 0) ∨ (1 ≤ r27 ∧ r27 ≤ 10 ∧ r27 ≤ ((l0.length : Nat) : Int)) := hk33
  replace hk34 : r26 ≤ 18446744073709551615 := hk34
  refine Mv rfl rfl (Kn (v := .int .u64 ((r26 : Nat) : Int)) rfl rfl rfl (fun _ => by kernel_rfl) (Kn (v := .int .i64 r27) rfl rfl rfl (fun _ => by kernel_rfl) (Kn (v := .int .i64 r28) rfl rfl rfl (fun _ => by kernel_rfl) (As rfl rfl (As rfl rfl (As rfl rfl (WL.nil (Fin.then (Wp.seq (Wp.seq (Wp.region (Mv rfl rfl (WL.val (v := .bool (decide (¬ (r28 = 0)))) rfl (Yl.bool (e := !(decide (r28 = 0))) (Yl.kern rfl rfl (fun _ => by kernel_rfl)) decide_not.symm) (WL.nil (Fin.then ?_)))))))))))))))
  by_cases h35 : r28 = 0
  refine Wp.cond0 rfl (decide_eq_false (not_not_intro h35)) (Wp.skip (Fin.then (Wp.seq (Wp.seq (Wp.region (Mv rfl rfl (Kn (v := .bool (decide (p1 < 0))) rfl rfl rfl (fun _ => by kernel_rfl) (Mv rfl rfl ?_))))))))
  by_cases h36 : p1 < 0
  refine Sk rfl rfl (decide_eq_true h36) rfl (Sk rfl rfl (decide_eq_true h36) rfl (Sk rfl rfl (decide_eq_true h36) rfl (Sk rfl rfl (decide_eq_true h36) rfl (WL.val (v := .bool true) rfl (Yl.pickT rfl (decide_eq_true h36) rfl) (WL.nil (Fin.then (Wp.cond1 rfl rfl (Wp.seq (Wp.region (As rfl rfl (As rfl rfl (As rfl rfl (WL.nil (Fin.then (Wp.ret (Fin.thenR (Fin.res (res3 rfl rfl rfl rfl) ?_)))))))))))))))))
  have H37 := H32.pick [] (by decide) rfl
  have e : r01_ReadText l0 p1 = ([], 0, 2) := Eq.trans (bnd_of hr29) (Eq.trans (if_pos h35) (if_pos h36))
  obtain ⟨rfl, rfl, rfl⟩ := pj3 (e.symm.trans hr)
  exact ⟨rfl, H37, (by first | omega | (simp only [List.length_take, List.length_drop]; omega))⟩
  refine WL.valG (v := .int .u64 ((r26 : Nat) : Int)) rfl rfl (decide_eq_false h36) rfl (Yl.move rfl) (WL.valG (v := .int .i64 p1) rfl rfl (decide_eq_false h36) rfl (Yl.move rfl) ?_)
  have hz38 : Int.toNat (IntKind.u64.wrap p1) ≤ 18446744073709551615 := wrapN_u64 _
  refine WL.valG (v := .int .u64 ((Int.toNat (IntKind.u64.wrap p1) : Nat) : Int)) rfl rfl (decide_eq_false h36) rfl (Yl.int (e := IntKind.u64.wrap p1) (Yl.kern rfl rfl (fun _ => by kernel_rfl)) (wrap_nat_u64 _)) (WL.valG (v := .bool (decide (((r26 : Nat) : Int) > ((Int.toNat (IntKind.u64.wrap p1) : Nat) : Int)))) rfl rfl (decide_eq_false h36) rfl (Yl.kern rfl rfl (fun _ => by kernel_rfl)) (WL.val (v := .bool (decide (((r26 : Nat) : Int) > ((Int.toNat (IntKind.u64.wrap p1) : Nat) : Int)))) rfl (Yl.pickF rfl (decide_eq_false h36) rfl) (WL.nil (Fin.then ?_))))
  by_cases h39 : ((r26 : Nat) : Int) > ((Int.toNat (IntKind.u64.wrap p1) : Nat) : Int)
  refine Wp.cond1 rfl (decide_eq_true h39) (Wp.seq (Wp.region (As rfl rfl (As rfl rfl (As rfl rfl (WL.nil (Fin.then (Wp.ret (Fin.thenR (Fin.res (res3 rfl rfl rfl rfl) ?_))))))))))
  have H40 := H32.pick [] (by decide) rfl
  have e : r01_ReadText l0 p1 = ([], 0, 2) := Eq.trans (bnd_of hr29) (Eq.trans (if_pos h35) (Eq.trans (if_neg h36) (if_pos h39)))
  obtain ⟨rfl, rfl, rfl⟩ := pj3 (e.symm.trans hr)
  exact ⟨rfl, H40, (by first | omega | (simp only [List.length_take, List.length_drop]; omega))⟩
  refine Wp.cond0 rfl (decide_eq_false h39) (Wp.skip (Fin.then (Wp.seq (Wp.seq (Wp.region (Mv rfl rfl (Mv rfl rfl (Kn (v := .int .i64 ((l0.length : Nat) : Int)) rfl rfl rfl (fun _ => by kernel_rfl) (Mv rfl rfl (WL.val (v := .int .i64 (((l0.length : Nat) : Int) - r27)) rfl (Yl.int (e := IntKind.i64.wrap (((l0.length : Nat) : Int) - r27)) (Yl.kern rfl rfl (fun _ => by kernel_rfl)) (by rw [IntWalk.i64_in _ (by omega)])) (WL.val (v := .int .u64 ((Int.toNat (((l0.length : Nat) : Int) - r27) : Nat) : Int)) rfl (Yl.int (e := IntKind.u64.wrap (((l0.length : Nat) : Int) - r27)) (Yl.kern rfl rfl (fun _ => by kernel_rfl)) (by rw [IntWalk.u64_in _ (by omega)]; omega)) (Kn (v := .bool (decide (((r26 : Nat) : Int) > ((Int.toNat (((l0.length : Nat) : Int) - r27) : Nat) : Int)))) rfl rfl rfl (fun _ => by kernel_rfl) (WL.nil (Fin.then ?_))))))))))))))
  by_cases h41 : ((r26 : Nat) : Int) > ((Int.toNat (((l0.length : Nat) : Int) - r27) : Nat) : Int)
  refine Wp.cond1 rfl (decide_eq_true h41) (Wp.seq (Wp.region (As rfl rfl (As rfl rfl (As rfl rfl (WL.nil (Fin.then (Wp.ret (Fin.thenR (Fin.res (res3 rfl rfl rfl rfl) ?_))))))))))
  have H42 := H32.pick [] (by decide) rfl
  have e : r01_ReadText l0 p1 = ([], 0, 10) := Eq.trans (bnd_of hr29) (Eq.trans (if_pos h35) (Eq.trans (if_neg h36) (Eq.trans (if_neg h39) (if_pos h41))))
  obtain ⟨rfl, rfl, rfl⟩ := pj3 (e.symm.trans hr)
  exact ⟨rfl, H42, (by first | omega | (simp only [List.length_take, List.length_drop]; omega))⟩
  refine Wp.cond0 rfl (decide_eq_false h41) (Wp.skip (Fin.then (Wp.seq (Wp.region (Mv rfl rfl (WL.val (v := .int .i64 ((Int.toNat r27 : Nat) : Int)) rfl (Yl.int (e := r27) (Yl.move rfl) (by omega)) (Mv rfl rfl (Mv rfl rfl (WL.val (v := .int .i64 ((r26 : Nat) : Int)) rfl (Yl.int (e := IntKind.i64.wrap ((r26 : Nat) : Int)) (Yl.kern rfl rfl (fun _ => by kernel_rfl)) (IntWalk.i64_in _ (by omega))) (WL.val (v := .int .i64 ((Int.toNat (r27 + ((r26 : Nat) : Int)) : Nat) : Int)) rfl (Yl.int (e := IntKind.i64.wrap (r27 + ((r26 : Nat) : Int))) (Yl.kern rfl rfl (fun _ => by kernel_rfl)) (by rw [IntWalk.i64_in _ (by omega)]; omega)) (WL.val (v := .slice (cutA A0 (Int.toNat r27) 1 c0) ((Int.toNat (r27 + ((r26 : Nat) : Int))) - (Int.toNat r27)) (c0 - (Int.toNat r27))) rfl (Yl.cut (El29) rfl rfl rfl (by omega) (by omega)) (WL.val (v := .string ⟨List.toArray (List.take ((Int.toNat (r27 + ((r26 : Nat) : Int))) - (Int.toNat r27)) (List.drop (Int.toNat r27) l0))⟩) rfl (Yl.toStringE (l := (List.take ((Int.toNat (r27 + ((r26 : Nat) : Int))) - (Int.toNat r27)) (List.drop (Int.toNat r27) l0))) Tryz.underlying29 Tryz.underlying5 Tryz.underlying9 (Rds.cutE (lo := Int.toNat r27) (hi := Int.toNat (r27 + ((r26 : Nat) : Int))) eB_len (H32.ro hx0) (by omega) (by omega) (by omega)) rfl) (Mv rfl rfl (Mv rfl rfl (WL.val (v := .int .i64 ((r26 : Nat) : Int)) rfl (Yl.int (e := IntKind.i64.wrap ((r26 : Nat) : Int)) (Yl.kern rfl rfl (fun _ => by kernel_rfl)) (IntWalk.i64_in _ (by omega))) (WL.val (v := .int .i64 (r27 + ((r26 : Nat) : Int))) rfl (Yl.int (e := IntKind.i64.wrap (r27 + ((r26 : Nat) : Int))) (Yl.kern rfl rfl (fun _ => by kernel_rfl)) (by rw [IntWalk.i64_in _ (by omega)])) (As rfl rfl (As rfl rfl (As rfl rfl (WL.nil (Fin.then (Wp.ret (Fin.res (res3 rfl rfl rfl rfl) ?_)))))))))))))))))))))))
  have H43 := H32.pick [] (by decide) rfl
  have e : r01_ReadText l0 p1 = ((List.take ((Int.toNat (r27 + ((r26 : Nat) : Int))) - (Int.toNat r27)) (List.drop (Int.toNat r27) l0)), r27 + ((r26 : Nat) : Int), 0) := Eq.trans (bnd_of hr29) (Eq.trans (if_pos h35) (Eq.trans (if_neg h36) (Eq.trans (if_neg h39) (if_neg h41))))
  obtain ⟨rfl, rfl, rfl⟩ := pj3 (e.symm.trans hr)
  exact ⟨rfl, H43, (by first | omega | (simp only [List.length_take, List.length_drop]; omega))⟩
  refine Wp.cond1 rfl (decide_eq_true h35) (Wp.seq (Wp.region (Mv rfl rfl (As rfl rfl (As rfl rfl (As rfl rfl (WL.nil (Fin.then (Wp.ret (Fin.thenR (Fin.res (res3 rfl rfl rfl rfl) ?_)))))))))))
  have H44 := H32.pick [] (by decide) rfl
  have e : r01_ReadText l0 p1 = ([], 0, r28) := Eq.trans (bnd_of hr29) (if_neg h35)
  obtain ⟨rfl, rfl, rfl⟩ := pj3 (e.symm.trans hr)
  exact ⟨rfl, H44, (by first | omega | (simp only [List.length_take, List.length_drop]; omega))⟩

structure RD where
  xB : Sv UInt8
  xE : Int

def RD.cells (x : RD) : List Value := [.slice x.xB.A x.xB.ls.length x.xB.c, .int .i64 x.xE]

instance : Bk RD := ⟨fun x _ => bk x.xB + (bk x.xE + (0))⟩

theorem RD.len : ∀ x, (RD.cells x).length = 2 := fun _ => rfl

theorem RD.one : ∀ x, ∀ u ∈ RD.cells x, u.oneCell' = true := fun x u hu => by
  simp only [RD.cells, List.mem_cons, List.not_mem_nil, or_false] at hu
  rcases hu with rfl | rfl <;> rfl

def RD.Ok (w : World) (x : RD) : Prop := (SvOk w 1 1 eB (fun _ => True) x.xB) ∧ ((-9223372036854775808) ≤ x.xE ∧ x.xE ≤ 9223372036854775807)

instance : Inhabited RD := ⟨⟨default, default⟩⟩

structure RT where
  xB : Ll UInt8
  xE : Int

instance : Inhabited RT := ⟨⟨default, default⟩⟩

def RD.abs (x : RD) : RT := ⟨⟨x.xB.ls⟩, x.xE⟩

def RD.own (x : RD) : List HP := [row x.xB.A x.xB.ls.length x.xB.c (List.flatMap eB x.xB.ls) 5 1]

def r13_R_fail (p0 : RT) (p1 : Int) : RT :=
  if p0.xE = 0 then RT.mk (Ll.mk p0.xB.ls) p1 else p0

set_option maxRecDepth 100000 in
theorem r13_R_fail_ok (w : World) (D : Nat → Prop) (g0 : Nat) (p0 : RT) (A0x0 : Option Addr) (c0x0 : Nat) (p1 : Int) (r0 : RT) (H : Own w D w [blk g0 [.slice A0x0 p0.xB.ls.length c0x0, .int .i64 p0.xE] 69]) (hx0x0 : Ro w D fun w' => Rds w' 1 A0x0 p0.xB.ls.length (List.flatMap eB p0.xB.ls)) (hb0x0 : p0.xB.ls.length ≤ c0x0 ∧ p0.xB.ls.length ≤ 9223372036854775807) (hr : r13_R_fail p0 p1 = r0) :
    Calls Tryz.prog 32 #[.pointer (some ⟨g0, 0, none⟩), .int .i64 p1] w (Ret fun v w' => ∃ (B0ox0 : Option Addr) (b0ox0 : Nat), v = .tuple #[] ∧ Own w D w' [blk g0 [.slice B0ox0 r0.xB.ls.length b0ox0, .int .i64 r0.xE] 69] ∧ (SubS 1 A0x0 c0x0 p0.xB.ls B0ox0 b0ox0 r0.xB.ls)) := by
  refine Calls.body (args := [.pointer (some ⟨g0, 0, none⟩), .int .i64 p1]) Tryz.func32 rfl rfl rfl ?_
  show Wp _ _ _ [(0, .pointer (some ⟨g0, 0, none⟩)), (1, .int .i64 p1)] _ _
  refine Wp.seq (Wp.region (Mv rfl rfl (Kn (v := .pointer (some ⟨g0, 0, none⟩)) rfl rfl rfl (fun _ => by kernel_rfl) (Kn (v := .pointer (some ⟨g0, 1, none⟩)) rfl rfl rfl (fun _ => by kernel_rfl) (WL.val (v := .int .i64 p0.xE) rfl (Yl.load rfl (Lds.one Tryz.isAgg30 (Cls.of (H.cls (i := 0) rfl) rfl))) (Kn (v := .bool (decide (p0.xE = 0))) rfl rfl rfl (fun _ => by kernel_rfl) (WL.nil (Fin.then ?_))))))))
  by_cases h21 : p0.xE = 0
  refine Wp.cond1 rfl (decide_eq_true h21) (Wp.region (Mv rfl rfl (Mv rfl rfl (Kn (v := .pointer (some ⟨g0, 0, none⟩)) rfl rfl rfl (fun _ => by kernel_rfl) (Kn (v := .pointer (some ⟨g0, 1, none⟩)) rfl rfl rfl (fun _ => by kernel_rfl) ?_)))))
  refine WL.do0 (Do.store (vs := [.int .i64 p1]) (o := 1) H rfl rfl Tryz.sizeOf30 rfl rfl rfl rfl ?_)
  intro w22 H23
  refine WL.nil (Fin.res0 (res0 rfl) ?_)
  have H24 := H23.pick [0] (by decide) rfl
  have e : r13_R_fail p0 p1 = RT.mk (Ll.mk p0.xB.ls) p1 := if_pos h21
  obtain rfl := e.symm.trans hr
  exact ⟨A0x0, c0x0, rfl, H24, (SubS.refl (by omega))⟩
  refine Wp.cond0 rfl (decide_eq_false h21) (Wp.skip (Fin.res0 (res0 rfl) ?_))
  have H25 : Own w D w [blk g0 [.slice A0x0 p0.xB.ls.length c0x0, .int .i64 p0.xE] 69] := H.pick [0] (by decide) rfl
  have e : r13_R_fail p0 p1 = p0 := if_neg h21
  obtain rfl := e.symm.trans hr
  exact ⟨A0x0, c0x0, rfl, H25, (SubS.refl (by omega))⟩

def r13_R_number (p0 : RT) (p1 : Nat) : Nat × RT :=
  bnd (r01_ReadNum p0.xB.ls) fun yr26 => if p0.xE = 0 then if yr26.2.2 = 0 then if ((yr26.1 : Nat) : Int) > ((p1 : Nat) : Int) then bnd (r13_R_fail p0 11) fun yr43 => (0, yr43) else (yr26.1, RT.mk (Ll.mk (List.drop (Int.toNat yr26.2.1) p0.xB.ls)) p0.xE) else bnd (r13_R_fail p0 yr26.2.2) fun yr63 => (0, yr63) else (0, p0)

set_option maxRecDepth 100000 in
theorem r13_R_number_ok (w : World) (D : Nat → Prop) (g0 : Nat) (p0 : RT) (A0x0 : Option Addr) (c0x0 : Nat) (p1 : Nat) (r0 : Nat) (r1 : RT) (H : Own w D w [blk g0 [.slice A0x0 p0.xB.ls.length c0x0, .int .i64 p0.xE] 69]) (hx0x0 : Ro w D fun w' => Rds w' 1 A0x0 p0.xB.ls.length (List.flatMap eB p0.xB.ls)) (hb0x0 : p0.xB.ls.length ≤ c0x0 ∧ p0.xB.ls.length ≤ 9223372036854775807) (hr : r13_R_number p0 p1 = (r0, r1)) :
    Calls Tryz.prog 56 #[.pointer (some ⟨g0, 0, none⟩), .int .u64 ((p1 : Nat) : Int)] w (Ret fun v w' => ∃ (B1ox0 : Option Addr) (b1ox0 : Nat), v = .int .u64 ((r0 : Nat) : Int) ∧ Own w D w' [blk g0 [.slice B1ox0 r1.xB.ls.length b1ox0, .int .i64 r1.xE] 69] ∧ (SubS 1 A0x0 c0x0 p0.xB.ls B1ox0 b1ox0 r1.xB.ls) ∧ (r0 ≤ p1)) := by
  refine Calls.body (args := [.pointer (some ⟨g0, 0, none⟩), .int .u64 ((p1 : Nat) : Int)]) Tryz.func56 rfl rfl rfl ?_
  show Wp _ _ _ [(0, .pointer (some ⟨g0, 0, none⟩)), (1, .int .u64 ((p1 : Nat) : Int))] _ _
  refine Wp.seq (Wp.region (As rfl rfl (WL.nil (Fin.then (Wp.seq (Wp.region (Mv rfl rfl (Kn (v := .pointer (some ⟨g0, 0, none⟩)) rfl rfl rfl (fun _ => by kernel_rfl) (Kn (v := .pointer (some ⟨g0, 0, none⟩)) rfl rfl rfl (fun _ => by kernel_rfl) (WL.val (v := .slice A0x0 p0.xB.ls.length c0x0) rfl (Yl.load rfl (Lds.one Tryz.isAgg29 (Cls.of (H.cls (i := 0) rfl) rfl))) ?_))))))))))
  obtain ⟨⟨r26, r27, r28⟩, hr29⟩ : ∃ q : Nat × Int × Int, r01_ReadNum p0.xB.ls = q := ⟨_, rfl⟩
  obtain ⟨D21, HP22, ro23, bk24, rr25⟩ := Own.enter0 H
  refine WL.do rfl (Do.call Tryz.call77 rfl (r01_ReadNum_ok _ _ A0x0 p0.xB.ls.length c0x0 p0.xB.ls r26 r27 r28 HP22 (ro23 _ hx0x0) rfl (by omega) (by first | omega | (simp only [List.length_take, List.length_drop]; omega)) hr29) ?_)
  rintro _ w30 ⟨rfl, HQ31, hk33, hk34⟩
  have H32 := bk24 _ _ HQ31
  replace hk33 : ¬ (r28 = 0) ∨ (1 ≤ r27 ∧ r27 ≤ 10 ∧ r27 ≤ ((p0.xB.ls.length : Nat) : Int)) := hk33
  replace hk34 : r26 ≤ 18446744073709551615 := hk34
  refine Mv rfl rfl (Kn (v := .int .u64 ((r26 : Nat) : Int)) rfl rfl rfl (fun _ => by kernel_rfl) (Kn (v := .int .i64 r27) rfl rfl rfl (fun _ => by kernel_rfl) (Kn (v := .int .i64 r28) rfl rfl rfl (fun _ => by kernel_rfl) (As rfl rfl (As rfl rfl (As rfl rfl (WL.nil (Fin.then (Wp.seq (Wp.seq (Wp.region (Mv rfl rfl (Kn (v := .pointer (some ⟨g0, 0, none⟩)) rfl rfl rfl (fun _ => by kernel_rfl) (Kn (v := .pointer (some ⟨g0, 1, none⟩)) rfl rfl rfl (fun _ => by kernel_rfl) (WL.val (v := .int .i64 p0.xE) rfl (Yl.load rfl (Lds.one Tryz.isAgg30 (Cls.of (H32.cls (i := 0) rfl) rfl))) (WL.val (v := .bool (decide (¬ (p0.xE = 0)))) rfl (Yl.bool (e := !(decide (p0.xE = 0))) (Yl.kern rfl rfl (fun _ => by kernel_rfl)) decide_not.symm) (WL.nil (Fin.then ?_))))))))))))))))))
  by_cases h35 : p0.xE = 0
  refine Wp.cond0 rfl (decide_eq_false (not_not_intro h35)) (Wp.skip (Fin.then (Wp.seq (Wp.seq (Wp.region (Mv rfl rfl (WL.val (v := .bool (decide (¬ (r28 = 0)))) rfl (Yl.bool (e := !(decide (r28 = 0))) (Yl.kern rfl rfl (fun _ => by kernel_rfl)) decide_not.symm) (WL.nil (Fin.then ?_)))))))))
  by_cases h36 : r28 = 0
  refine Wp.cond0 rfl (decide_eq_false (not_not_intro h36)) (Wp.skip (Fin.then (Wp.seq (Wp.seq (Wp.region (Mv rfl rfl (Mv rfl rfl (Kn (v := .bool (decide (((r26 : Nat) : Int) > ((p1 : Nat) : Int)))) rfl rfl rfl (fun _ => by kernel_rfl) (WL.nil (Fin.then ?_))))))))))
  by_cases h37 : ((r26 : Nat) : Int) > ((p1 : Nat) : Int)
  refine Wp.cond1 rfl (decide_eq_true h37) (Wp.seq (Wp.region (Mv rfl rfl ?_)))
  obtain ⟨r43, hr44⟩ : ∃ q, r13_R_fail p0 11 = q := ⟨_, rfl⟩
  obtain ⟨D38, HP39, ro40, bk41, rr42⟩ := Own.enter1 H32
  refine WL.do rfl (Do.call Tryz.call32 rfl (r13_R_fail_ok _ _ g0 p0 A0x0 c0x0 11 r43 HP39 (ro40 _ hx0x0) (show p0.xB.ls.length ≤ c0x0 ∧ p0.xB.ls.length ≤ 9223372036854775807 from by omega) hr44) ?_)
  rintro _ w45 ⟨A48, c49, rfl, HQ46, hs50⟩
  have H47 := bk41 _ _ HQ46
  replace hs50 : SubS 1 A0x0 c0x0 p0.xB.ls A48 c49 r43.xB.ls := hs50
  have hz51 := (hs50).le
  refine WL.nil (Fin.then (Wp.seq (Wp.region (As rfl rfl (WL.nil (Fin.then (Wp.ret (Fin.thenR (Fin.res (res1 rfl rfl) ?_)))))))))
  have H52 := H47.pick [0] (by decide) rfl
  have e : r13_R_number p0 p1 = (0, r43) := Eq.trans (bnd_of hr29) (Eq.trans (if_pos h35) (Eq.trans (if_pos h36) (Eq.trans (if_pos h37) (bnd_of hr44))))
  obtain ⟨rfl, rfl⟩ := pj2 (e.symm.trans hr)
  exact ⟨A48, c49, rfl, H52, hs50, (by omega)⟩
  refine Wp.cond0 rfl (decide_eq_false h37) (Wp.skip (Fin.then (Wp.seq (Wp.region (Mv rfl rfl (Mv rfl rfl (Kn (v := .pointer (some ⟨g0, 0, none⟩)) rfl rfl rfl (fun _ => by kernel_rfl) (Kn (v := .pointer (some ⟨g0, 0, none⟩)) rfl rfl rfl (fun _ => by kernel_rfl) (WL.val (v := .slice A0x0 p0.xB.ls.length c0x0) rfl (Yl.load rfl (Lds.one Tryz.isAgg29 (Cls.of (H32.cls (i := 0) rfl) rfl))) (WL.val (v := .int .i64 ((Int.toNat r27 : Nat) : Int)) rfl (Yl.int (e := r27) (Yl.move rfl) (by omega)) (WL.val (v := .slice (cutA A0x0 (Int.toNat r27) 1 c0x0) (p0.xB.ls.length - (Int.toNat r27)) (c0x0 - (Int.toNat r27))) rfl (Yl.cutFrom (El29) rfl rfl (by omega)) (Kn (v := .pointer (some ⟨g0, 0, none⟩)) rfl rfl rfl (fun _ => by kernel_rfl) (Kn (v := .pointer (some ⟨g0, 0, none⟩)) rfl rfl rfl (fun _ => by kernel_rfl) ?_)))))))))))))
  refine WL.do0 (Do.store (vs := [.slice (cutA A0x0 (Int.toNat r27) 1 c0x0) (p0.xB.ls.length - (Int.toNat r27)) (c0x0 - (Int.toNat r27))]) (o := 0) H32 rfl rfl Tryz.sizeOf29 rfl rfl rfl rfl ?_)
  intro w53 H54
  refine WL.nil (Fin.then (Wp.seq (Wp.region (Mv rfl rfl (As rfl rfl (WL.nil (Fin.then (Wp.ret (Fin.res (res1 rfl rfl) ?_)))))))))
  have hn55 : p0.xB.ls.length - (Int.toNat r27) = List.length (List.drop (Int.toNat r27) p0.xB.ls) := by first | omega | (simp only [List.length_drop, List.length_take] <;> omega)
  have H56 : Own w D w53 [blk g0 [.slice (cutA A0x0 (Int.toNat r27) 1 c0x0) (List.length (List.drop (Int.toNat r27) p0.xB.ls)) (c0x0 - (Int.toNat r27)), .int .i64 p0.xE] 69] := by rw [← hn55]; exact H54
  have H57 := H56.pick [0] (by decide) rfl
  have e : r13_R_number p0 p1 = (r26, RT.mk (Ll.mk (List.drop (Int.toNat r27) p0.xB.ls)) p0.xE) := Eq.trans (bnd_of hr29) (Eq.trans (if_pos h35) (Eq.trans (if_pos h36) (if_neg h37)))
  obtain ⟨rfl, rfl⟩ := pj2 (e.symm.trans hr)
  exact ⟨cutA A0x0 (Int.toNat r27) 1 c0x0, c0x0 - (Int.toNat r27), (by first | rfl | (rw [← hn55]; done) | (rw [← hn55]; rfl)), H57, (SubS.cut (SubS.refl (by omega)) (by first | omega | (simp only [List.length_drop]; omega))), (by omega)⟩
  refine Wp.cond1 rfl (decide_eq_true h36) (Wp.seq (Wp.region (Mv rfl rfl (Mv rfl rfl ?_))))
  obtain ⟨r63, hr64⟩ : ∃ q, r13_R_fail p0 r28 = q := ⟨_, rfl⟩
  obtain ⟨D58, HP59, ro60, bk61, rr62⟩ := Own.enter1 H32
  refine WL.do rfl (Do.call Tryz.call32 rfl (r13_R_fail_ok _ _ g0 p0 A0x0 c0x0 r28 r63 HP59 (ro60 _ hx0x0) (show p0.xB.ls.length ≤ c0x0 ∧ p0.xB.ls.length ≤ 9223372036854775807 from by omega) hr64) ?_)
  rintro _ w65 ⟨A68, c69, rfl, HQ66, hs70⟩
  have H67 := bk61 _ _ HQ66
  replace hs70 : SubS 1 A0x0 c0x0 p0.xB.ls A68 c69 r63.xB.ls := hs70
  have hz71 := (hs70).le
  refine WL.nil (Fin.then (Wp.seq (Wp.region (As rfl rfl (WL.nil (Fin.then (Wp.ret (Fin.thenR (Fin.res (res1 rfl rfl) ?_)))))))))
  have H72 := H67.pick [0] (by decide) rfl
  have e : r13_R_number p0 p1 = (0, r63) := Eq.trans (bnd_of hr29) (Eq.trans (if_pos h35) (Eq.trans (if_neg h36) (bnd_of hr64)))
  obtain ⟨rfl, rfl⟩ := pj2 (e.symm.trans hr)
  exact ⟨A68, c69, rfl, H72, hs70, (by omega)⟩
  refine Wp.cond1 rfl (decide_eq_true h35) (Wp.seq (Wp.region (As rfl rfl (WL.nil (Fin.then (Wp.ret (Fin.thenR (Fin.res (res1 rfl rfl) ?_))))))))
  have H73 := H32.pick [0] (by decide) rfl
  have e : r13_R_number p0 p1 = (0, p0) := Eq.trans (bnd_of hr29) (if_neg h35)
  obtain ⟨rfl, rfl⟩ := pj2 (e.symm.trans hr)
  exact ⟨A0x0, c0x0, rfl, H73, (SubS.refl (by omega)), (by omega)⟩

def r13_R_text (p0 : RT) : (List UInt8) × RT :=
  bnd (r01_ReadText p0.xB.ls 480) fun yr26 => if p0.xE = 0 then if yr26.2.2 = 2 then bnd (r13_R_fail p0 11) fun yr41 => ([], yr41) else if yr26.2.2 = 0 then (yr26.1, RT.mk (Ll.mk (List.drop (Int.toNat yr26.2.1) p0.xB.ls)) p0.xE) else bnd (r13_R_fail p0 yr26.2.2) fun yr62 => ([], yr62) else ([], p0)

set_option maxRecDepth 100000 in
theorem r13_R_text_ok (w : World) (D : Nat → Prop) (g0 : Nat) (p0 : RT) (A0x0 : Option Addr) (c0x0 : Nat) (r0 : List UInt8) (r1 : RT) (H : Own w D w [blk g0 [.slice A0x0 p0.xB.ls.length c0x0, .int .i64 p0.xE] 69]) (hx0x0 : Ro w D fun w' => Rds w' 1 A0x0 p0.xB.ls.length (List.flatMap eB p0.xB.ls)) (hb0x0 : p0.xB.ls.length ≤ c0x0 ∧ p0.xB.ls.length ≤ 9223372036854775807) (hr : r13_R_text p0 = (r0, r1)) :
    Calls Tryz.prog 57 #[.pointer (some ⟨g0, 0, none⟩)] w (Ret fun v w' => ∃ (B1ox0 : Option Addr) (b1ox0 : Nat), v = .string ⟨List.toArray r0⟩ ∧ Own w D w' [blk g0 [.slice B1ox0 r1.xB.ls.length b1ox0, .int .i64 r1.xE] 69] ∧ (SubS 1 A0x0 c0x0 p0.xB.ls B1ox0 b1ox0 r1.xB.ls)) := by
  refine Calls.body (args := [.pointer (some ⟨g0, 0, none⟩)]) Tryz.func57 rfl rfl rfl ?_
  show Wp _ _ _ [(0, .pointer (some ⟨g0, 0, none⟩))] _ _
  refine Wp.seq (Wp.region (As rfl rfl (WL.nil (Fin.then (Wp.seq (Wp.region (Mv rfl rfl (Kn (v := .pointer (some ⟨g0, 0, none⟩)) rfl rfl rfl (fun _ => by kernel_rfl) (Kn (v := .pointer (some ⟨g0, 0, none⟩)) rfl rfl rfl (fun _ => by kernel_rfl) (WL.val (v := .slice A0x0 p0.xB.ls.length c0x0) rfl (Yl.load rfl (Lds.one Tryz.isAgg29 (Cls.of (H.cls (i := 0) rfl) rfl))) ?_))))))))))
  obtain ⟨⟨r26, r27, r28⟩, hr29⟩ : ∃ q : (List UInt8) × Int × Int, r01_ReadText p0.xB.ls 480 = q := ⟨_, rfl⟩
  obtain ⟨D21, HP22, ro23, bk24, rr25⟩ := Own.enter0 H
  refine WL.do rfl (Do.call Tryz.call78 rfl (r01_ReadText_ok _ _ A0x0 p0.xB.ls.length c0x0 p0.xB.ls 480 r26 r27 r28 HP22 (ro23 _ hx0x0) rfl (by omega) (by first | omega | (simp only [List.length_take, List.length_drop]; omega)) hr29) ?_)
  rintro _ w30 ⟨rfl, HQ31, hk33⟩
  have H32 := bk24 _ _ HQ31
  replace hk33 : ¬ (r28 = 0) ∨ (1 ≤ r27 ∧ r27 ≤ ((p0.xB.ls.length : Nat) : Int) ∧ r26.length ≤ p0.xB.ls.length) := hk33
  refine Mv rfl rfl (Kn (v := .string ⟨List.toArray r26⟩) rfl rfl rfl (fun _ => by kernel_rfl) (Kn (v := .int .i64 r27) rfl rfl rfl (fun _ => by kernel_rfl) (Kn (v := .int .i64 r28) rfl rfl rfl (fun _ => by kernel_rfl) (As rfl rfl (As rfl rfl (As rfl rfl (WL.nil (Fin.then (Wp.seq (Wp.seq (Wp.region (Mv rfl rfl (Kn (v := .pointer (some ⟨g0, 0, none⟩)) rfl rfl rfl (fun _ => by kernel_rfl) (Kn (v := .pointer (some ⟨g0, 1, none⟩)) rfl rfl rfl (fun _ => by kernel_rfl) (WL.val (v := .int .i64 p0.xE) rfl (Yl.load rfl (Lds.one Tryz.isAgg30 (Cls.of (H32.cls (i := 0) rfl) rfl))) (WL.val (v := .bool (decide (¬ (p0.xE = 0)))) rfl (Yl.bool (e := !(decide (p0.xE = 0))) (Yl.kern rfl rfl (fun _ => by kernel_rfl)) decide_not.symm) (WL.nil (Fin.then ?_))))))))))))))))))
  by_cases h34 : p0.xE = 0
  refine Wp.cond0 rfl (decide_eq_false (not_not_intro h34)) (Wp.skip (Fin.then (Wp.seq (Wp.seq (Wp.region (Mv rfl rfl (Kn (v := .bool (decide (r28 = 2))) rfl rfl rfl (fun _ => by kernel_rfl) (WL.nil (Fin.then ?_)))))))))
  by_cases h35 : r28 = 2
  refine Wp.cond1 rfl (decide_eq_true h35) (Wp.region (As rfl rfl (WL.nil (Fin.then (Wp.seq (Wp.seq (Wp.region (Mv rfl rfl (Kn (v := .bool true) rfl rfl rfl (fun _ => by kernel_rfl) (WL.nil (Fin.then (Wp.cond1 rfl rfl (Wp.seq (Wp.region (Mv rfl rfl (Mv rfl rfl ?_))))))))))))))))
  obtain ⟨r41, hr42⟩ : ∃ q, r13_R_fail p0 11 = q := ⟨_, rfl⟩
  obtain ⟨D36, HP37, ro38, bk39, rr40⟩ := Own.enter1 H32
  refine WL.do rfl (Do.call Tryz.call32 rfl (r13_R_fail_ok _ _ g0 p0 A0x0 c0x0 11 r41 HP37 (ro38 _ hx0x0) (show p0.xB.ls.length ≤ c0x0 ∧ p0.xB.ls.length ≤ 9223372036854775807 from by omega) hr42) ?_)
  rintro _ w43 ⟨A46, c47, rfl, HQ44, hs48⟩
  have H45 := bk39 _ _ HQ44
  replace hs48 : SubS 1 A0x0 c0x0 p0.xB.ls A46 c47 r41.xB.ls := hs48
  have hz49 := (hs48).le
  refine WL.nil (Fin.then (Wp.seq (Wp.region (As rfl rfl (WL.nil (Fin.then (Wp.ret (Fin.thenR (Fin.res (res1 rfl rfl) ?_)))))))))
  have H50 := H45.pick [0] (by decide) rfl
  have e : r13_R_text p0 = ([], r41) := Eq.trans (bnd_of hr29) (Eq.trans (if_pos h34) (Eq.trans (if_pos h35) (bnd_of hr42)))
  obtain ⟨rfl, rfl⟩ := pj2 (e.symm.trans hr)
  exact ⟨A46, c47, rfl, H50, hs48⟩
  refine Wp.cond0 rfl (decide_eq_false h35) (Wp.skip (Fin.then (Wp.seq (Wp.seq (Wp.region (Mv rfl rfl (WL.val (v := .bool (decide (¬ (r28 = 0)))) rfl (Yl.bool (e := !(decide (r28 = 0))) (Yl.kern rfl rfl (fun _ => by kernel_rfl)) decide_not.symm) (WL.nil (Fin.then ?_)))))))))
  by_cases h51 : r28 = 0
  refine Wp.cond0 rfl (decide_eq_false (not_not_intro h51)) (Wp.skip (Fin.then (Wp.seq (Wp.region (Mv rfl rfl (Mv rfl rfl (Kn (v := .pointer (some ⟨g0, 0, none⟩)) rfl rfl rfl (fun _ => by kernel_rfl) (Kn (v := .pointer (some ⟨g0, 0, none⟩)) rfl rfl rfl (fun _ => by kernel_rfl) (WL.val (v := .slice A0x0 p0.xB.ls.length c0x0) rfl (Yl.load rfl (Lds.one Tryz.isAgg29 (Cls.of (H32.cls (i := 0) rfl) rfl))) (WL.val (v := .int .i64 ((Int.toNat r27 : Nat) : Int)) rfl (Yl.int (e := r27) (Yl.move rfl) (by omega)) (WL.val (v := .slice (cutA A0x0 (Int.toNat r27) 1 c0x0) (p0.xB.ls.length - (Int.toNat r27)) (c0x0 - (Int.toNat r27))) rfl (Yl.cutFrom (El29) rfl rfl (by omega)) (Kn (v := .pointer (some ⟨g0, 0, none⟩)) rfl rfl rfl (fun _ => by kernel_rfl) (Kn (v := .pointer (some ⟨g0, 0, none⟩)) rfl rfl rfl (fun _ => by kernel_rfl) ?_)))))))))))))
  refine WL.do0 (Do.store (vs := [.slice (cutA A0x0 (Int.toNat r27) 1 c0x0) (p0.xB.ls.length - (Int.toNat r27)) (c0x0 - (Int.toNat r27))]) (o := 0) H32 rfl rfl Tryz.sizeOf29 rfl rfl rfl rfl ?_)
  intro w52 H53
  refine WL.nil (Fin.then (Wp.seq (Wp.region (Mv rfl rfl (As rfl rfl (WL.nil (Fin.then (Wp.ret (Fin.res (res1 rfl rfl) ?_)))))))))
  have hn54 : p0.xB.ls.length - (Int.toNat r27) = List.length (List.drop (Int.toNat r27) p0.xB.ls) := by first | omega | (simp only [List.length_drop, List.length_take] <;> omega)
  have H55 : Own w D w52 [blk g0 [.slice (cutA A0x0 (Int.toNat r27) 1 c0x0) (List.length (List.drop (Int.toNat r27) p0.xB.ls)) (c0x0 - (Int.toNat r27)), .int .i64 p0.xE] 69] := by rw [← hn54]; exact H53
  have H56 := H55.pick [0] (by decide) rfl
  have e : r13_R_text p0 = (r26, RT.mk (Ll.mk (List.drop (Int.toNat r27) p0.xB.ls)) p0.xE) := Eq.trans (bnd_of hr29) (Eq.trans (if_pos h34) (Eq.trans (if_neg h35) (if_pos h51)))
  obtain ⟨rfl, rfl⟩ := pj2 (e.symm.trans hr)
  exact ⟨cutA A0x0 (Int.toNat r27) 1 c0x0, c0x0 - (Int.toNat r27), (by first | rfl | (rw [← hn54]; done) | (rw [← hn54]; rfl)), H56, (SubS.cut (SubS.refl (by omega)) (by first | omega | (simp only [List.length_drop]; omega)))⟩
  refine Wp.cond1 rfl (decide_eq_true h51) (Wp.seq (Wp.region (Mv rfl rfl (Mv rfl rfl ?_))))
  obtain ⟨r62, hr63⟩ : ∃ q, r13_R_fail p0 r28 = q := ⟨_, rfl⟩
  obtain ⟨D57, HP58, ro59, bk60, rr61⟩ := Own.enter1 H32
  refine WL.do rfl (Do.call Tryz.call32 rfl (r13_R_fail_ok _ _ g0 p0 A0x0 c0x0 r28 r62 HP58 (ro59 _ hx0x0) (show p0.xB.ls.length ≤ c0x0 ∧ p0.xB.ls.length ≤ 9223372036854775807 from by omega) hr63) ?_)
  rintro _ w64 ⟨A67, c68, rfl, HQ65, hs69⟩
  have H66 := bk60 _ _ HQ65
  replace hs69 : SubS 1 A0x0 c0x0 p0.xB.ls A67 c68 r62.xB.ls := hs69
  have hz70 := (hs69).le
  refine WL.nil (Fin.then (Wp.seq (Wp.region (As rfl rfl (WL.nil (Fin.then (Wp.ret (Fin.thenR (Fin.res (res1 rfl rfl) ?_)))))))))
  have H71 := H66.pick [0] (by decide) rfl
  have e : r13_R_text p0 = ([], r62) := Eq.trans (bnd_of hr29) (Eq.trans (if_pos h34) (Eq.trans (if_neg h35) (Eq.trans (if_neg h51) (bnd_of hr63))))
  obtain ⟨rfl, rfl⟩ := pj2 (e.symm.trans hr)
  exact ⟨A67, c68, rfl, H71, hs69⟩
  refine Wp.cond1 rfl (decide_eq_true h34) (Wp.seq (Wp.region (As rfl rfl (WL.nil (Fin.then (Wp.ret (Fin.thenR (Fin.res (res1 rfl rfl) ?_))))))))
  have H72 := H32.pick [0] (by decide) rfl
  have e : r13_R_text p0 = ([], p0) := Eq.trans (bnd_of hr29) (if_neg h34)
  obtain ⟨rfl, rfl⟩ := pj2 (e.symm.trans hr)
  exact ⟨A0x0, c0x0, rfl, H72, (SubS.refl (by omega))⟩

def r13_R_byte (p0 : RT) : Int × RT :=
  if p0.xE = 0 then if ((p0.xB.ls.length : Nat) : Int) = 0 then bnd (r13_R_fail p0 10) fun yr28 => (0, yr28) else bnd (List.getD p0.xB.ls 0 default) fun yx38 => (((yx38.toNat : Nat) : Int), RT.mk (Ll.mk (List.drop 1 p0.xB.ls)) p0.xE) else (0, p0)

set_option maxRecDepth 100000 in
theorem r13_R_byte_ok (w : World) (D : Nat → Prop) (g0 : Nat) (p0 : RT) (A0x0 : Option Addr) (c0x0 : Nat) (r0 : Int) (r1 : RT) (H : Own w D w [blk g0 [.slice A0x0 p0.xB.ls.length c0x0, .int .i64 p0.xE] 69]) (hx0x0 : Ro w D fun w' => Rds w' 1 A0x0 p0.xB.ls.length (List.flatMap eB p0.xB.ls)) (hb0x0 : p0.xB.ls.length ≤ c0x0 ∧ p0.xB.ls.length ≤ 9223372036854775807) (hr : r13_R_byte p0 = (r0, r1)) :
    Calls Tryz.prog 55 #[.pointer (some ⟨g0, 0, none⟩)] w (Ret fun v w' => ∃ (B1ox0 : Option Addr) (b1ox0 : Nat), v = .int .i64 r0 ∧ Own w D w' [blk g0 [.slice B1ox0 r1.xB.ls.length b1ox0, .int .i64 r1.xE] 69] ∧ (SubS 1 A0x0 c0x0 p0.xB.ls B1ox0 b1ox0 r1.xB.ls)) := by
  refine Calls.body (args := [.pointer (some ⟨g0, 0, none⟩)]) Tryz.func55 rfl rfl rfl ?_
  show Wp _ _ _ [(0, .pointer (some ⟨g0, 0, none⟩))] _ _
  refine Wp.seq (Wp.region (As rfl rfl (WL.nil (Fin.then (Wp.seq (Wp.seq (Wp.region (Mv rfl rfl (Kn (v := .pointer (some ⟨g0, 0, none⟩)) rfl rfl rfl (fun _ => by kernel_rfl) (Kn (v := .pointer (some ⟨g0, 1, none⟩)) rfl rfl rfl (fun _ => by kernel_rfl) (WL.val (v := .int .i64 p0.xE) rfl (Yl.load rfl (Lds.one Tryz.isAgg30 (Cls.of (H.cls (i := 0) rfl) rfl))) (WL.val (v := .bool (decide (¬ (p0.xE = 0)))) rfl (Yl.bool (e := !(decide (p0.xE = 0))) (Yl.kern rfl rfl (fun _ => by kernel_rfl)) decide_not.symm) (WL.nil (Fin.then ?_))))))))))))))
  by_cases h21 : p0.xE = 0
  refine Wp.cond0 rfl (decide_eq_false (not_not_intro h21)) (Wp.skip (Fin.then (Wp.seq (Wp.seq (Wp.region (Mv rfl rfl (Kn (v := .pointer (some ⟨g0, 0, none⟩)) rfl rfl rfl (fun _ => by kernel_rfl) (Kn (v := .pointer (some ⟨g0, 0, none⟩)) rfl rfl rfl (fun _ => by kernel_rfl) (WL.val (v := .slice A0x0 p0.xB.ls.length c0x0) rfl (Yl.load rfl (Lds.one Tryz.isAgg29 (Cls.of (H.cls (i := 0) rfl) rfl))) (Kn (v := .int .i64 ((p0.xB.ls.length : Nat) : Int)) rfl rfl rfl (fun _ => by kernel_rfl) (Kn (v := .bool (decide (((p0.xB.ls.length : Nat) : Int) = 0))) rfl rfl rfl (fun _ => by kernel_rfl) (WL.nil (Fin.then ?_)))))))))))))
  by_cases h22 : ((p0.xB.ls.length : Nat) : Int) = 0
  refine Wp.cond1 rfl (decide_eq_true h22) (Wp.seq (Wp.region (Mv rfl rfl ?_)))
  obtain ⟨r28, hr29⟩ : ∃ q, r13_R_fail p0 10 = q := ⟨_, rfl⟩
  obtain ⟨D23, HP24, ro25, bk26, rr27⟩ := Own.enter1 H
  refine WL.do rfl (Do.call Tryz.call32 rfl (r13_R_fail_ok _ _ g0 p0 A0x0 c0x0 10 r28 HP24 (ro25 _ hx0x0) (show p0.xB.ls.length ≤ c0x0 ∧ p0.xB.ls.length ≤ 9223372036854775807 from by omega) hr29) ?_)
  rintro _ w30 ⟨A33, c34, rfl, HQ31, hs35⟩
  have H32 := bk26 _ _ HQ31
  replace hs35 : SubS 1 A0x0 c0x0 p0.xB.ls A33 c34 r28.xB.ls := hs35
  have hz36 := (hs35).le
  refine WL.nil (Fin.then (Wp.seq (Wp.region (As rfl rfl (WL.nil (Fin.then (Wp.ret (Fin.thenR (Fin.res (res1 rfl rfl) ?_)))))))))
  have H37 := H32.pick [0] (by decide) rfl
  have e : r13_R_byte p0 = (0, r28) := Eq.trans (if_pos h21) (Eq.trans (if_pos h22) (bnd_of hr29))
  obtain ⟨rfl, rfl⟩ := pj2 (e.symm.trans hr)
  exact ⟨A33, c34, rfl, H37, hs35⟩
  refine Wp.cond0 rfl (decide_eq_false h22) (Wp.skip (Fin.then (Wp.seq (Wp.region (Mv rfl rfl (Kn (v := .pointer (some ⟨g0, 0, none⟩)) rfl rfl rfl (fun _ => by kernel_rfl) (Kn (v := .pointer (some ⟨g0, 0, none⟩)) rfl rfl rfl (fun _ => by kernel_rfl) (WL.val (v := .slice A0x0 p0.xB.ls.length c0x0) rfl (Yl.load rfl (Lds.one Tryz.isAgg29 (Cls.of (H.cls (i := 0) rfl) rfl))) ?_))))))))
  obtain ⟨x38, hx39⟩ := rds_at (ls := p0.xB.ls) (i := 0) eB_len (by decide) (H.ro hx0x0) (by first | omega | (simp; done) | (simp; omega))
  refine WL.val (v := .pointer (some ⟨ab A0x0, ao A0x0 + 0 * 1, none⟩)) rfl (Yl.indexAddr (El29) rfl rfl ((H.ro hx0x0).addr (i := 0) (by omega)) (by omega)) (WL.val (v := .int .u8 ((x38.toNat : Nat) : Int)) rfl (Yl.load rfl (Lds.one Tryz.isAgg5 (((H.ro hx0x0).elem eB_len hx39 (by decide)).at_ (k := 0) rfl))) (As rfl rfl (WL.nil (Fin.then (Wp.seq (Wp.region (Mv rfl rfl (Mv rfl rfl (Kn (v := .pointer (some ⟨g0, 0, none⟩)) rfl rfl rfl (fun _ => by kernel_rfl) (Kn (v := .pointer (some ⟨g0, 0, none⟩)) rfl rfl rfl (fun _ => by kernel_rfl) (WL.val (v := .slice A0x0 p0.xB.ls.length c0x0) rfl (Yl.load rfl (Lds.one Tryz.isAgg29 (Cls.of (H.cls (i := 0) rfl) rfl))) (WL.val (v := .slice (cutA A0x0 1 1 c0x0) (p0.xB.ls.length - 1) (c0x0 - 1)) rfl (Yl.cutFrom (El29) rfl rfl (by omega)) (Kn (v := .pointer (some ⟨g0, 0, none⟩)) rfl rfl rfl (fun _ => by kernel_rfl) (Kn (v := .pointer (some ⟨g0, 0, none⟩)) rfl rfl rfl (fun _ => by kernel_rfl) ?_))))))))))))))
  refine WL.do0 (Do.store (vs := [.slice (cutA A0x0 1 1 c0x0) (p0.xB.ls.length - 1) (c0x0 - 1)]) (o := 0) H rfl rfl Tryz.sizeOf29 rfl rfl rfl rfl ?_)
  intro w40 H41
  refine WL.nil (Fin.then (Wp.seq (Wp.region (Mv rfl rfl ?_))))
  have hz42 : x38.toNat ≤ 255 := Nat.le_of_lt_succ (UInt8.toNat_lt _)
  refine WL.val (v := .int .i64 ((x38.toNat : Nat) : Int)) rfl (Yl.int (e := IntKind.i64.wrap ((x38.toNat : Nat) : Int)) (Yl.kern rfl rfl (fun _ => by kernel_rfl)) (IntWalk.i64_in _ (by omega))) (As rfl rfl (WL.nil (Fin.then (Wp.ret (Fin.res (res1 rfl rfl) ?_)))))
  have hn43 : p0.xB.ls.length - 1 = List.length (List.drop 1 p0.xB.ls) := by first | omega | (simp only [List.length_drop, List.length_take] <;> omega)
  have H44 : Own w D w40 [blk g0 [.slice (cutA A0x0 1 1 c0x0) (List.length (List.drop 1 p0.xB.ls)) (c0x0 - 1), .int .i64 p0.xE] 69] := by rw [← hn43]; exact H41
  have H45 := H44.pick [0] (by decide) rfl
  have e : r13_R_byte p0 = (((x38.toNat : Nat) : Int), RT.mk (Ll.mk (List.drop 1 p0.xB.ls)) p0.xE) := Eq.trans (if_pos h21) (Eq.trans (if_neg h22) (bnd_of (getD_of hx39)))
  obtain ⟨rfl, rfl⟩ := pj2 (e.symm.trans hr)
  exact ⟨cutA A0x0 1 1 c0x0, c0x0 - 1, (by first | rfl | (rw [← hn43]; done) | (rw [← hn43]; rfl)), H45, (SubS.cut (SubS.refl (by omega)) (by first | omega | (simp only [List.length_drop]; omega)))⟩
  refine Wp.cond1 rfl (decide_eq_true h21) (Wp.seq (Wp.region (As rfl rfl (WL.nil (Fin.then (Wp.ret (Fin.thenR (Fin.res (res1 rfl rfl) ?_))))))))
  have H46 : Own w D w [blk g0 [.slice A0x0 p0.xB.ls.length c0x0, .int .i64 p0.xE] 69] := H.pick [0] (by decide) rfl
  have e : r13_R_byte p0 = (0, p0) := if_neg h21
  obtain ⟨rfl, rfl⟩ := pj2 (e.symm.trans hr)
  exact ⟨A0x0, c0x0, rfl, H46, (SubS.refl (by omega))⟩

def r13_R_entry (p0 : RT) : EntryD × RT :=
  bnd (r13_R_number p0 18446744073709551615) fun yr35 => bnd (r13_R_byte yr35.2) fun yr55 => if yr55.1 = 2 then bnd (r13_R_text yr55.2) fun yr75 => bnd (r13_R_text yr75.2) fun yr94 => (EntryD.mk yr35.1 (OpD.mk yr55.1 yr75.1 yr94.1 ([]) ([]) 0), yr94.2) else if yr55.1 = 3 then bnd (r13_R_text yr55.2) fun yr118 => (EntryD.mk yr35.1 (OpD.mk yr55.1 yr118.1 ([]) ([]) ([]) 0), yr118.2) else if yr55.1 = 5 then bnd (r13_R_text yr55.2) fun yr142 => bnd (r13_R_text yr142.2) fun yr161 => (EntryD.mk yr35.1 (OpD.mk yr55.1 ([]) ([]) yr142.1 yr161.1 0), yr161.2) else bnd (r13_R_fail yr55.2 11) fun yr184 => (EntryD.mk yr35.1 (OpD.mk yr55.1 ([]) ([]) ([]) ([]) 0), yr184)

set_option maxRecDepth 100000 in
theorem r13_R_entry_ok (w : World) (D : Nat → Prop) (g0 : Nat) (p0 : RT) (A0x0 : Option Addr) (c0x0 : Nat) (r0 : EntryD) (r1 : RT) (H : Own w D w [blk g0 [.slice A0x0 p0.xB.ls.length c0x0, .int .i64 p0.xE] 69]) (hx0x0 : Ro w D fun w' => Rds w' 1 A0x0 p0.xB.ls.length (List.flatMap eB p0.xB.ls)) (hb0x0 : p0.xB.ls.length ≤ c0x0 ∧ p0.xB.ls.length ≤ 9223372036854775807) (hr : r13_R_entry p0 = (r0, r1)) :
    Calls Tryz.prog 58 #[.pointer (some ⟨g0, 0, none⟩)] w (Ret fun v w' => ∃ (B1ox0 : Option Addr) (b1ox0 : Nat), v = .agg (EntryD.cells r0).toArray ∧ Own w D w' [blk g0 [.slice B1ox0 r1.xB.ls.length b1ox0, .int .i64 r1.xE] 69] ∧ (SubS 1 A0x0 c0x0 p0.xB.ls B1ox0 b1ox0 r1.xB.ls)) := by
  refine Calls.body (args := [.pointer (some ⟨g0, 0, none⟩)]) Tryz.func58 rfl rfl rfl ?_
  show Wp _ _ _ [(0, .pointer (some ⟨g0, 0, none⟩))] _ _
  refine Wp.seq (Wp.region ?_)
  refine WL.do rfl (Do.newP (cs := [.int .u64 0, .int .i64 0, .string ⟨List.toArray ([])⟩, .string ⟨List.toArray ([])⟩, .string ⟨List.toArray ([])⟩, .string ⟨List.toArray ([])⟩, .int .i64 0]) (t := 61) H rfl rfl (fun _ => by kernel_rfl) ?_)
  intro g21 w22 H23
  refine WL.nil (Fin.then (Wp.seq (Wp.region (Kn (v := .agg #[.int .u64 0, .int .i64 0, .string ⟨List.toArray ([])⟩, .string ⟨List.toArray ([])⟩, .string ⟨List.toArray ([])⟩, .string ⟨List.toArray ([])⟩, .int .i64 0]) rfl rfl rfl (fun _ => by kernel_rfl) ?_))))
  refine WL.do rfl (Do.newP (cs := [.int .u64 0, .int .i64 0, .string ⟨List.toArray ([])⟩, .string ⟨List.toArray ([])⟩, .string ⟨List.toArray ([])⟩, .string ⟨List.toArray ([])⟩, .int .i64 0]) (t := 61) H23 rfl rfl (fun _ => by kernel_rfl) ?_)
  intro g24 w25 H26
  refine WL.do0 (Do.store (vs := [.int .u64 0, .int .i64 0, .string ⟨List.toArray ([])⟩, .string ⟨List.toArray ([])⟩, .string ⟨List.toArray ([])⟩, .string ⟨List.toArray ([])⟩, .int .i64 0]) (o := 0) H26 rfl rfl Tryz.sizeOf61 rfl rfl rfl rfl ?_)
  intro w27 H28
  refine WL.nil (Fin.then (Wp.seq (Wp.region (Mv rfl rfl ?_))))
  have H29 := H28.pick [2, 0, 1] (by decide) rfl
  obtain ⟨⟨r35, r36⟩, hr37⟩ : ∃ q : Nat × RT, r13_R_number p0 18446744073709551615 = q := ⟨_, rfl⟩
  obtain ⟨D30, HP31, ro32, bk33, rr34⟩ := Own.enter1 H29
  refine WL.do rfl (Do.call Tryz.call56 rfl (r13_R_number_ok _ _ g0 p0 A0x0 c0x0 18446744073709551615 r35 r36 HP31 (ro32 _ hx0x0) (show p0.xB.ls.length ≤ c0x0 ∧ p0.xB.ls.length ≤ 9223372036854775807 from by omega) hr37) ?_)
  rintro _ w38 ⟨A41, c42, rfl, HQ39, hs43, hk44⟩
  have H40 := bk33 _ _ HQ39
  replace hs43 : SubS 1 A0x0 c0x0 p0.xB.ls A41 c42 r36.xB.ls := hs43
  have hz45 := (hs43).le
  replace hk44 : r35 ≤ 18446744073709551615 := hk44
  refine Kn (v := .pointer (some ⟨g24, 0, none⟩)) rfl rfl rfl (fun _ => by kernel_rfl) ?_
  have H46 := H40.pick [1, 0, 2] (by decide) rfl
  refine WL.do0 (Do.store (vs := [.int .u64 ((r35 : Nat) : Int)]) (o := 0) H46 rfl rfl Tryz.sizeOf57 rfl rfl rfl rfl ?_)
  intro w47 H48
  refine WL.nil (Fin.then (Wp.seq (Wp.region (Mv rfl rfl ?_))))
  have H49 := H48.pick [1, 0, 2] (by decide) rfl
  obtain ⟨⟨r55, r56⟩, hr57⟩ : ∃ q : Int × RT, r13_R_byte r36 = q := ⟨_, rfl⟩
  obtain ⟨D50, HP51, ro52, bk53, rr54⟩ := Own.enter1 H49
  refine WL.do rfl (Do.call Tryz.call55 rfl (r13_R_byte_ok _ _ g0 r36 A41 c42 r55 r56 HP51 (fun w9 h9 => SubS.rds eB_len (by decide) hs43 ((ro52 _ hx0x0) w9 h9)) (show r36.xB.ls.length ≤ c42 ∧ r36.xB.ls.length ≤ 9223372036854775807 from by omega) hr57) ?_)
  rintro _ w58 ⟨A61, c62, rfl, HQ59, hs63⟩
  have H60 := bk53 _ _ HQ59
  replace hs63 : SubS 1 A41 c42 r36.xB.ls A61 c62 r56.xB.ls := hs63
  have hz64 := (hs63).le
  refine Kn (v := .pointer (some ⟨g24, 1, none⟩)) rfl rfl rfl (fun _ => by kernel_rfl) (Kn (v := .pointer (some ⟨g24, 1, none⟩)) rfl rfl rfl (fun _ => by kernel_rfl) ?_)
  have H65 := H60.pick [1, 0, 2] (by decide) rfl
  refine WL.do0 (Do.store (vs := [.int .i64 r55]) (o := 1) H65 rfl rfl Tryz.sizeOf3 rfl rfl rfl rfl ?_)
  intro w66 H67
  refine WL.nil (Fin.then (Wp.seq (Wp.seq (Wp.region (Kn (v := .pointer (some ⟨g24, 1, none⟩)) rfl rfl rfl (fun _ => by kernel_rfl) (Kn (v := .pointer (some ⟨g24, 1, none⟩)) rfl rfl rfl (fun _ => by kernel_rfl) (WL.val (v := .int .i64 r55) rfl (Yl.load rfl (Lds.one Tryz.isAgg3 (Cls.of (H67.cls (i := 0) rfl) rfl))) (WL.nil (Fin.then (Wp.block (Wp.seq (Wp.region (Kn (v := .bool (decide (r55 = 2))) rfl rfl rfl (fun _ => by kernel_rfl) (As rfl rfl (WL.nil (Fin.then ?_))))))))))))))))
  by_cases h68 : r55 = 2
  refine Wp.cond1 rfl (decide_eq_true h68) (Wp.seq (Wp.region (Mv rfl rfl ?_)))
  have H69 := H67.pick [1, 0, 2] (by decide) rfl
  obtain ⟨⟨r75, r76⟩, hr77⟩ : ∃ q : (List UInt8) × RT, r13_R_text r56 = q := ⟨_, rfl⟩
  obtain ⟨D70, HP71, ro72, bk73, rr74⟩ := Own.enter1 H69
  refine WL.do rfl (Do.call Tryz.call57 rfl (r13_R_text_ok _ _ g0 r56 A61 c62 r75 r76 HP71 (fun w9 h9 => SubS.rds eB_len (by decide) hs63 ((fun w9 h9 => SubS.rds eB_len (by decide) hs43 ((ro72 _ hx0x0) w9 h9)) w9 h9)) (show r56.xB.ls.length ≤ c62 ∧ r56.xB.ls.length ≤ 9223372036854775807 from by omega) hr77) ?_)
  rintro _ w78 ⟨A81, c82, rfl, HQ79, hs83⟩
  have H80 := bk73 _ _ HQ79
  replace hs83 : SubS 1 A61 c62 r56.xB.ls A81 c82 r76.xB.ls := hs83
  have hz84 := (hs83).le
  refine Kn (v := .pointer (some ⟨g24, 1, none⟩)) rfl rfl rfl (fun _ => by kernel_rfl) (Kn (v := .pointer (some ⟨g24, 2, none⟩)) rfl rfl rfl (fun _ => by kernel_rfl) ?_)
  have H85 := H80.pick [1, 0, 2] (by decide) rfl
  refine WL.do0 (Do.store (vs := [.string ⟨List.toArray r75⟩]) (o := 2) H85 rfl rfl Tryz.sizeOf9 rfl rfl rfl rfl ?_)
  intro w86 H87
  refine WL.nil (Fin.then (Wp.region (Mv rfl rfl ?_)))
  have H88 := H87.pick [1, 0, 2] (by decide) rfl
  obtain ⟨⟨r94, r95⟩, hr96⟩ : ∃ q : (List UInt8) × RT, r13_R_text r76 = q := ⟨_, rfl⟩
  obtain ⟨D89, HP90, ro91, bk92, rr93⟩ := Own.enter1 H88
  refine WL.do rfl (Do.call Tryz.call57 rfl (r13_R_text_ok _ _ g0 r76 A81 c82 r94 r95 HP90 (fun w9 h9 => SubS.rds eB_len (by decide) hs83 ((fun w9 h9 => SubS.rds eB_len (by decide) hs63 ((fun w9 h9 => SubS.rds eB_len (by decide) hs43 ((ro91 _ hx0x0) w9 h9)) w9 h9)) w9 h9)) (show r76.xB.ls.length ≤ c82 ∧ r76.xB.ls.length ≤ 9223372036854775807 from by omega) hr96) ?_)
  rintro _ w97 ⟨A100, c101, rfl, HQ98, hs102⟩
  have H99 := bk92 _ _ HQ98
  replace hs102 : SubS 1 A81 c82 r76.xB.ls A100 c101 r95.xB.ls := hs102
  have hz103 := (hs102).le
  refine Kn (v := .pointer (some ⟨g24, 1, none⟩)) rfl rfl rfl (fun _ => by kernel_rfl) (Kn (v := .pointer (some ⟨g24, 3, none⟩)) rfl rfl rfl (fun _ => by kernel_rfl) ?_)
  have H104 := H99.pick [1, 0, 2] (by decide) rfl
  refine WL.do0 (Do.store (vs := [.string ⟨List.toArray r94⟩]) (o := 3) H104 rfl rfl Tryz.sizeOf9 rfl rfl rfl rfl ?_)
  intro w105 H106
  refine WL.nil (Fin.blockN (Fin.then (Wp.seq (Wp.region (WL.val (v := .agg #[.int .u64 ((r35 : Nat) : Int), .int .i64 r55, .string ⟨List.toArray r75⟩, .string ⟨List.toArray r94⟩, .string ⟨List.toArray ([])⟩, .string ⟨List.toArray ([])⟩, .int .i64 0]) rfl (Yl.load rfl (Lds.agg (cs := [.int .u64 ((r35 : Nat) : Int), .int .i64 r55, .string ⟨List.toArray r75⟩, .string ⟨List.toArray r94⟩, .string ⟨List.toArray ([])⟩, .string ⟨List.toArray ([])⟩, .int .i64 0]) Tryz.isAgg61 Tryz.sizeOf61 ((H106.cls (i := 0) rfl).lit (k := 0) (m := 7) rfl))) ?_)))))
  have H107 := H106.pick [2, 0, 1] (by decide) rfl
  refine WL.do0 (Do.store (vs := [.int .u64 ((r35 : Nat) : Int), .int .i64 r55, .string ⟨List.toArray r75⟩, .string ⟨List.toArray r94⟩, .string ⟨List.toArray ([])⟩, .string ⟨List.toArray ([])⟩, .int .i64 0]) (o := 0) H107 rfl rfl Tryz.sizeOf61 rfl rfl rfl rfl ?_)
  intro w108 H109
  refine WL.nil (Fin.then (Wp.ret (Fin.res (resC rfl rfl (Lds.agg (cs := [.int .u64 ((r35 : Nat) : Int), .int .i64 r55, .string ⟨List.toArray r75⟩, .string ⟨List.toArray r94⟩, .string ⟨List.toArray ([])⟩, .string ⟨List.toArray ([])⟩, .int .i64 0]) Tryz.isAgg61 Tryz.sizeOf61 ((H109.cls (i := 0) rfl).lit (k := 0) (m := 7) rfl))) ?_)))
  have H110 := H109.pick [2] (by decide) rfl
  have e : r13_R_entry p0 = (EntryD.mk r35 (OpD.mk r55 r75 r94 ([]) ([]) 0), r95) := Eq.trans (bnd_of hr37) (Eq.trans (bnd_of hr57) (Eq.trans (if_pos h68) (Eq.trans (bnd_of hr77) (bnd_of hr96))))
  obtain ⟨rfl, rfl⟩ := pj2 (e.symm.trans hr)
  exact ⟨A100, c101, rfl, H110, (SubS.trans (SubS.trans (SubS.trans hs43 hs63) hs83) hs102)⟩
  refine Wp.cond0 rfl (decide_eq_false h68) (Wp.seq (Wp.region (Kn (v := .bool (decide (r55 = 3))) rfl rfl rfl (fun _ => by kernel_rfl) (As rfl rfl (WL.nil (Fin.then ?_))))))
  by_cases h111 : r55 = 3
  refine Wp.cond1 rfl (decide_eq_true h111) (Wp.region (Mv rfl rfl ?_))
  have H112 := H67.pick [1, 0, 2] (by decide) rfl
  obtain ⟨⟨r118, r119⟩, hr120⟩ : ∃ q : (List UInt8) × RT, r13_R_text r56 = q := ⟨_, rfl⟩
  obtain ⟨D113, HP114, ro115, bk116, rr117⟩ := Own.enter1 H112
  refine WL.do rfl (Do.call Tryz.call57 rfl (r13_R_text_ok _ _ g0 r56 A61 c62 r118 r119 HP114 (fun w9 h9 => SubS.rds eB_len (by decide) hs63 ((fun w9 h9 => SubS.rds eB_len (by decide) hs43 ((ro115 _ hx0x0) w9 h9)) w9 h9)) (show r56.xB.ls.length ≤ c62 ∧ r56.xB.ls.length ≤ 9223372036854775807 from by omega) hr120) ?_)
  rintro _ w121 ⟨A124, c125, rfl, HQ122, hs126⟩
  have H123 := bk116 _ _ HQ122
  replace hs126 : SubS 1 A61 c62 r56.xB.ls A124 c125 r119.xB.ls := hs126
  have hz127 := (hs126).le
  refine Kn (v := .pointer (some ⟨g24, 1, none⟩)) rfl rfl rfl (fun _ => by kernel_rfl) (Kn (v := .pointer (some ⟨g24, 2, none⟩)) rfl rfl rfl (fun _ => by kernel_rfl) ?_)
  have H128 := H123.pick [1, 0, 2] (by decide) rfl
  refine WL.do0 (Do.store (vs := [.string ⟨List.toArray r118⟩]) (o := 2) H128 rfl rfl Tryz.sizeOf9 rfl rfl rfl rfl ?_)
  intro w129 H130
  refine WL.nil (Fin.blockN (Fin.then (Wp.seq (Wp.region (WL.val (v := .agg #[.int .u64 ((r35 : Nat) : Int), .int .i64 r55, .string ⟨List.toArray r118⟩, .string ⟨List.toArray ([])⟩, .string ⟨List.toArray ([])⟩, .string ⟨List.toArray ([])⟩, .int .i64 0]) rfl (Yl.load rfl (Lds.agg (cs := [.int .u64 ((r35 : Nat) : Int), .int .i64 r55, .string ⟨List.toArray r118⟩, .string ⟨List.toArray ([])⟩, .string ⟨List.toArray ([])⟩, .string ⟨List.toArray ([])⟩, .int .i64 0]) Tryz.isAgg61 Tryz.sizeOf61 ((H130.cls (i := 0) rfl).lit (k := 0) (m := 7) rfl))) ?_)))))
  have H131 := H130.pick [2, 0, 1] (by decide) rfl
  refine WL.do0 (Do.store (vs := [.int .u64 ((r35 : Nat) : Int), .int .i64 r55, .string ⟨List.toArray r118⟩, .string ⟨List.toArray ([])⟩, .string ⟨List.toArray ([])⟩, .string ⟨List.toArray ([])⟩, .int .i64 0]) (o := 0) H131 rfl rfl Tryz.sizeOf61 rfl rfl rfl rfl ?_)
  intro w132 H133
  refine WL.nil (Fin.then (Wp.ret (Fin.res (resC rfl rfl (Lds.agg (cs := [.int .u64 ((r35 : Nat) : Int), .int .i64 r55, .string ⟨List.toArray r118⟩, .string ⟨List.toArray ([])⟩, .string ⟨List.toArray ([])⟩, .string ⟨List.toArray ([])⟩, .int .i64 0]) Tryz.isAgg61 Tryz.sizeOf61 ((H133.cls (i := 0) rfl).lit (k := 0) (m := 7) rfl))) ?_)))
  have H134 := H133.pick [2] (by decide) rfl
  have e : r13_R_entry p0 = (EntryD.mk r35 (OpD.mk r55 r118 ([]) ([]) ([]) 0), r119) := Eq.trans (bnd_of hr37) (Eq.trans (bnd_of hr57) (Eq.trans (if_neg h68) (Eq.trans (if_pos h111) (bnd_of hr120))))
  obtain ⟨rfl, rfl⟩ := pj2 (e.symm.trans hr)
  exact ⟨A124, c125, rfl, H134, (SubS.trans (SubS.trans hs43 hs63) hs126)⟩
  refine Wp.cond0 rfl (decide_eq_false h111) (Wp.seq (Wp.region (Kn (v := .bool (decide (r55 = 5))) rfl rfl rfl (fun _ => by kernel_rfl) (As rfl rfl (WL.nil (Fin.then ?_))))))
  by_cases h135 : r55 = 5
  refine Wp.cond1 rfl (decide_eq_true h135) (Wp.seq (Wp.region (Mv rfl rfl ?_)))
  have H136 := H67.pick [1, 0, 2] (by decide) rfl
  obtain ⟨⟨r142, r143⟩, hr144⟩ : ∃ q : (List UInt8) × RT, r13_R_text r56 = q := ⟨_, rfl⟩
  obtain ⟨D137, HP138, ro139, bk140, rr141⟩ := Own.enter1 H136
  refine WL.do rfl (Do.call Tryz.call57 rfl (r13_R_text_ok _ _ g0 r56 A61 c62 r142 r143 HP138 (fun w9 h9 => SubS.rds eB_len (by decide) hs63 ((fun w9 h9 => SubS.rds eB_len (by decide) hs43 ((ro139 _ hx0x0) w9 h9)) w9 h9)) (show r56.xB.ls.length ≤ c62 ∧ r56.xB.ls.length ≤ 9223372036854775807 from by omega) hr144) ?_)
  rintro _ w145 ⟨A148, c149, rfl, HQ146, hs150⟩
  have H147 := bk140 _ _ HQ146
  replace hs150 : SubS 1 A61 c62 r56.xB.ls A148 c149 r143.xB.ls := hs150
  have hz151 := (hs150).le
  refine Kn (v := .pointer (some ⟨g24, 1, none⟩)) rfl rfl rfl (fun _ => by kernel_rfl) (Kn (v := .pointer (some ⟨g24, 4, none⟩)) rfl rfl rfl (fun _ => by kernel_rfl) ?_)
  have H152 := H147.pick [1, 0, 2] (by decide) rfl
  refine WL.do0 (Do.store (vs := [.string ⟨List.toArray r142⟩]) (o := 4) H152 rfl rfl Tryz.sizeOf9 rfl rfl rfl rfl ?_)
  intro w153 H154
  refine WL.nil (Fin.then (Wp.region (Mv rfl rfl ?_)))
  have H155 := H154.pick [1, 0, 2] (by decide) rfl
  obtain ⟨⟨r161, r162⟩, hr163⟩ : ∃ q : (List UInt8) × RT, r13_R_text r143 = q := ⟨_, rfl⟩
  obtain ⟨D156, HP157, ro158, bk159, rr160⟩ := Own.enter1 H155
  refine WL.do rfl (Do.call Tryz.call57 rfl (r13_R_text_ok _ _ g0 r143 A148 c149 r161 r162 HP157 (fun w9 h9 => SubS.rds eB_len (by decide) hs150 ((fun w9 h9 => SubS.rds eB_len (by decide) hs63 ((fun w9 h9 => SubS.rds eB_len (by decide) hs43 ((ro158 _ hx0x0) w9 h9)) w9 h9)) w9 h9)) (show r143.xB.ls.length ≤ c149 ∧ r143.xB.ls.length ≤ 9223372036854775807 from by omega) hr163) ?_)
  rintro _ w164 ⟨A167, c168, rfl, HQ165, hs169⟩
  have H166 := bk159 _ _ HQ165
  replace hs169 : SubS 1 A148 c149 r143.xB.ls A167 c168 r162.xB.ls := hs169
  have hz170 := (hs169).le
  refine Kn (v := .pointer (some ⟨g24, 1, none⟩)) rfl rfl rfl (fun _ => by kernel_rfl) (Kn (v := .pointer (some ⟨g24, 5, none⟩)) rfl rfl rfl (fun _ => by kernel_rfl) ?_)
  have H171 := H166.pick [1, 0, 2] (by decide) rfl
  refine WL.do0 (Do.store (vs := [.string ⟨List.toArray r161⟩]) (o := 5) H171 rfl rfl Tryz.sizeOf9 rfl rfl rfl rfl ?_)
  intro w172 H173
  refine WL.nil (Fin.blockN (Fin.then (Wp.seq (Wp.region (WL.val (v := .agg #[.int .u64 ((r35 : Nat) : Int), .int .i64 r55, .string ⟨List.toArray ([])⟩, .string ⟨List.toArray ([])⟩, .string ⟨List.toArray r142⟩, .string ⟨List.toArray r161⟩, .int .i64 0]) rfl (Yl.load rfl (Lds.agg (cs := [.int .u64 ((r35 : Nat) : Int), .int .i64 r55, .string ⟨List.toArray ([])⟩, .string ⟨List.toArray ([])⟩, .string ⟨List.toArray r142⟩, .string ⟨List.toArray r161⟩, .int .i64 0]) Tryz.isAgg61 Tryz.sizeOf61 ((H173.cls (i := 0) rfl).lit (k := 0) (m := 7) rfl))) ?_)))))
  have H174 := H173.pick [2, 0, 1] (by decide) rfl
  refine WL.do0 (Do.store (vs := [.int .u64 ((r35 : Nat) : Int), .int .i64 r55, .string ⟨List.toArray ([])⟩, .string ⟨List.toArray ([])⟩, .string ⟨List.toArray r142⟩, .string ⟨List.toArray r161⟩, .int .i64 0]) (o := 0) H174 rfl rfl Tryz.sizeOf61 rfl rfl rfl rfl ?_)
  intro w175 H176
  refine WL.nil (Fin.then (Wp.ret (Fin.res (resC rfl rfl (Lds.agg (cs := [.int .u64 ((r35 : Nat) : Int), .int .i64 r55, .string ⟨List.toArray ([])⟩, .string ⟨List.toArray ([])⟩, .string ⟨List.toArray r142⟩, .string ⟨List.toArray r161⟩, .int .i64 0]) Tryz.isAgg61 Tryz.sizeOf61 ((H176.cls (i := 0) rfl).lit (k := 0) (m := 7) rfl))) ?_)))
  have H177 := H176.pick [2] (by decide) rfl
  have e : r13_R_entry p0 = (EntryD.mk r35 (OpD.mk r55 ([]) ([]) r142 r161 0), r162) := Eq.trans (bnd_of hr37) (Eq.trans (bnd_of hr57) (Eq.trans (if_neg h68) (Eq.trans (if_neg h111) (Eq.trans (if_pos h135) (Eq.trans (bnd_of hr144) (bnd_of hr163))))))
  obtain ⟨rfl, rfl⟩ := pj2 (e.symm.trans hr)
  exact ⟨A167, c168, rfl, H177, (SubS.trans (SubS.trans (SubS.trans hs43 hs63) hs150) hs169)⟩
  refine Wp.cond0 rfl (decide_eq_false h135) (Wp.region (Mv rfl rfl ?_))
  have H178 := H67.pick [1, 0, 2] (by decide) rfl
  obtain ⟨r184, hr185⟩ : ∃ q, r13_R_fail r56 11 = q := ⟨_, rfl⟩
  obtain ⟨D179, HP180, ro181, bk182, rr183⟩ := Own.enter1 H178
  refine WL.do rfl (Do.call Tryz.call32 rfl (r13_R_fail_ok _ _ g0 r56 A61 c62 11 r184 HP180 (fun w9 h9 => SubS.rds eB_len (by decide) hs63 ((fun w9 h9 => SubS.rds eB_len (by decide) hs43 ((ro181 _ hx0x0) w9 h9)) w9 h9)) (show r56.xB.ls.length ≤ c62 ∧ r56.xB.ls.length ≤ 9223372036854775807 from by omega) hr185) ?_)
  rintro _ w186 ⟨A189, c190, rfl, HQ187, hs191⟩
  have H188 := bk182 _ _ HQ187
  replace hs191 : SubS 1 A61 c62 r56.xB.ls A189 c190 r184.xB.ls := hs191
  have hz192 := (hs191).le
  refine WL.nil (Fin.blockN (Fin.then (Wp.seq (Wp.region (WL.val (v := .agg #[.int .u64 ((r35 : Nat) : Int), .int .i64 r55, .string ⟨List.toArray ([])⟩, .string ⟨List.toArray ([])⟩, .string ⟨List.toArray ([])⟩, .string ⟨List.toArray ([])⟩, .int .i64 0]) rfl (Yl.load rfl (Lds.agg (cs := [.int .u64 ((r35 : Nat) : Int), .int .i64 r55, .string ⟨List.toArray ([])⟩, .string ⟨List.toArray ([])⟩, .string ⟨List.toArray ([])⟩, .string ⟨List.toArray ([])⟩, .int .i64 0]) Tryz.isAgg61 Tryz.sizeOf61 ((H188.cls (i := 1) rfl).lit (k := 0) (m := 7) rfl))) ?_)))))
  have H193 := H188.pick [2, 0, 1] (by decide) rfl
  refine WL.do0 (Do.store (vs := [.int .u64 ((r35 : Nat) : Int), .int .i64 r55, .string ⟨List.toArray ([])⟩, .string ⟨List.toArray ([])⟩, .string ⟨List.toArray ([])⟩, .string ⟨List.toArray ([])⟩, .int .i64 0]) (o := 0) H193 rfl rfl Tryz.sizeOf61 rfl rfl rfl rfl ?_)
  intro w194 H195
  refine WL.nil (Fin.then (Wp.ret (Fin.res (resC rfl rfl (Lds.agg (cs := [.int .u64 ((r35 : Nat) : Int), .int .i64 r55, .string ⟨List.toArray ([])⟩, .string ⟨List.toArray ([])⟩, .string ⟨List.toArray ([])⟩, .string ⟨List.toArray ([])⟩, .int .i64 0]) Tryz.isAgg61 Tryz.sizeOf61 ((H195.cls (i := 0) rfl).lit (k := 0) (m := 7) rfl))) ?_)))
  have H196 := H195.pick [1] (by decide) rfl
  have e : r13_R_entry p0 = (EntryD.mk r35 (OpD.mk r55 ([]) ([]) ([]) ([]) 0), r184) := Eq.trans (bnd_of hr37) (Eq.trans (bnd_of hr57) (Eq.trans (if_neg h68) (Eq.trans (if_neg h111) (Eq.trans (if_neg h135) (bnd_of hr185)))))
  obtain ⟨rfl, rfl⟩ := pj2 (e.symm.trans hr)
  exact ⟨A189, c190, rfl, H196, (SubS.trans (SubS.trans hs43 hs63) hs191)⟩
end Go.Proofs.YtfkkipmdnjfocaaGreat
