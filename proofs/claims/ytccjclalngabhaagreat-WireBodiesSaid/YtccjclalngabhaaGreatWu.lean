/-
  wire: the document's answer, what is read.
-/
import Derived.Test.YtccjclalngabhaaGreatWs
namespace Go.Proofs.YtccjclalngabhaaGreat
open Go.RowKit
set_option linter.unusedVariables false
set_option linter.unusedSectionVars false
set_option linter.unusedSimpArgs false
def r01_ReadNum_L1 (l0 : List UInt8) (k24 : Nat) : Nat → Nat → Int → Nat
  | 0, k43, z44 => default
  | q45 + 1, k43, z44 => if z44 ≥ 0 then bnd (List.getD l0 (Int.toNat z44) default) fun yx62 => r01_ReadNum_L1 l0 k24 q45 (Int.toNat (IntKind.u64.wrap (((Int.toNat (IntKind.u64.wrap (((k43 : Nat) : Int) * 128)) : Nat) : Int) + ((yx62.toNat % 128 : Nat) : Int)))) (z44 - 1) else k43
def r01_ReadNum_L0 (l0 : List UInt8) : List UInt8 → Nat → Unit ⊕ (Nat × Int × Int)
  | [], k24 => Sum.inl ()
  | x37 :: q25, k24 => if ((k24 : Nat) : Int) < 10 then if ((x37.toNat : Nat) : Int) ≥ 128 then r01_ReadNum_L0 l0 q25 (k24 + 1) else bnd (r01_ReadNum_L1 l0 k24 ((Int.toNat (((k24 : Nat) : Int) + 1)) + 1) 0 ((k24 : Nat) : Int)) fun sLrJjLstfL => bnd (r01_Num sLrJjLstfL) fun yr74 => if yr74 ≠ (List.take (k24 + 1) l0) then Sum.inr (0, 0, 11) else Sum.inr (sLrJjLstfL, ((k24 + 1 : Nat) : Int), 0) else Sum.inl ()
def r01_ReadNum (l0 : List UInt8) : Nat × Int × Int :=
  lp (lpS (r01_ReadNum_L0 l0 l0 0) fun _ => Sum.inl ()) fun _ => if ((l0.length : Nat) : Int) ≥ 10 then (0, 0, 11) else (0, 0, 10)
set_option maxRecDepth 100000 in
theorem r01_ReadNum_ok (w : World) (D : Nat → Prop) (A0 : Option Addr) (n0 c0 : Nat) (l0 : List UInt8) (r0 : Nat) (r1 : Int) (r2 : Int) (H : Own w D w []) (hx0 : Ro w D fun w' => Rds w' 1 A0 n0 (List.flatMap eB l0)) (hn0 : n0 = l0.length) (hl0 : l0.length ≤ 9223372036854775807) (hq0 : l0.length ≤ c0) (hr : r01_ReadNum l0 = (r0, r1, r2)) :
    Calls Tryz.prog 89 #[.slice A0 n0 c0] w (Ret fun v w' => v = .tuple #[.int .u64 ((r0 : Nat) : Int), .int .i64 r1, .int .i64 r2] ∧ Own w D w' [] ∧ (¬ (r2 = 0) ∨ (1 ≤ r1 ∧ r1 ≤ 10 ∧ r1 ≤ ((l0.length : Nat) : Int))) ∧ (r0 ≤ 18446744073709551615)) := by
  subst hn0
  refine Calls.body (args := [.slice A0 l0.length c0]) Tryz.func89 rfl rfl rfl ?_
  show Wp _ _ _ [(0, .slice A0 l0.length c0)] _ _
  refine sr (Az rfl (Az rfl (An rfl (Wp.seq (sr (An rfl ?_))))))
  obtain ⟨I21, hI22⟩ : ∃ q : Unit → World → Prop, q = fun (_ : Unit) w' => Own w D w' [] ∧ ((lpS (r01_ReadNum_L0 l0 l0 0) fun _ => Sum.inl ()) = Sum.inl ()) := ⟨_, rfl⟩
  have dm23 : ∀ {w' : World}, I21 () w' ↔ Own w D w' [] ∧ (lpS (r01_ReadNum_L0 l0 l0 0) fun _ => Sum.inl ()) = Sum.inl () := by intros; subst hI22; exact Iff.rfl
  refine Wp.joinT (fun _ : Unit => [(2, .int .u64 0), (3, .int .i64 0), (4, .int .i64 0), (0, .slice A0 l0.length c0)]) I21 ?_ ?_
  refine Wp.block ?_
  have H26 : Own w D w [] := H.pick [] (by decide) rfl
  obtain ⟨I30, hI31⟩ : ∃ q : Nat → World → Prop, q = fun (i : Nat) w' => Own w D w' [] ∧ (i ≤ l0.length ∧ i ≤ 10 ∧ r01_ReadNum_L0 l0 l0 0 = r01_ReadNum_L0 l0 (List.drop i l0) i) := ⟨_, rfl⟩
  have dm32 : ∀ {k24 : Nat} {w' : World}, I30 k24 w' ↔ Own w D w' [] ∧ k24 ≤ l0.length ∧ k24 ≤ 10 ∧ r01_ReadNum_L0 l0 l0 0 = r01_ReadNum_L0 l0 (List.drop k24 l0) k24 := by intros; subst hI31; exact Iff.rfl
  refine Wp.loop (fun i : Nat => [(2, .int .u64 0), (3, .int .i64 0), (4, .int .i64 0), (5, .int .i64 ((i : Nat) : Int)), (0, .slice A0 l0.length c0)]) I30 (fun i => l0.length - i) 0 ⟨rfl, rfl, rfl, rfl, rfl, trivial⟩ (dm32.2 ⟨H26, by omega, by omega, rfl⟩) ?_
  rintro k24 w27 hf29
  show Wp _ _ _ [(2, .int .u64 0), (3, .int .i64 0), (4, .int .i64 0), (5, .int .i64 ((k24 : Nat) : Int)), (0, .slice A0 l0.length c0)] _ _
  obtain ⟨H28, hi34, hi35, hq33⟩ := dm32.1 hf29
  refine Wp.seq (sr (Mz rfl (Mz rfl (Kz (.int .i64 ((l0.length : Nat) : Int)) (Kz (.bool (decide (((k24 : Nat) : Int) < ((l0.length : Nat) : Int)))) (Mz rfl ?_))))))
  by_cases h36 : ((k24 : Nat) : Int) < ((l0.length : Nat) : Int)
  obtain ⟨x37, hx38⟩ := rds_at (ls := l0) (i := k24) eB_len (by decide) (H28.ro hx0) (by first | omega | (simp; done) | (simp; omega))
  have hd39 := drop_at hx38
  refine WL.valG (v := .int .i64 ((k24 : Nat) : Int)) rfl rfl (dT h36) rfl (Yl.move rfl) (Gz (.bool (decide (((k24 : Nat) : Int) < 10))) (dT h36) (fw (.bool (decide (((k24 : Nat) : Int) < 10))) (Yl.pickT rfl (dT h36) rfl) (nt ?_)))
  by_cases h40 : ((k24 : Nat) : Int) < 10
  refine jT (dT h40) (Wp.skip (Fin.then (Wp.seq (Wp.block (Wp.seq (sr (Mz rfl (Mz rfl (fw (.pointer (some ⟨ab A0, ao A0 + k24 * 1, none⟩)) (Yl.indexAddr (El31) rfl rfl ((H28.ro hx0).addr (i := k24) (by omega)) (by omega)) (fw (.int .u8 ((x37.toNat : Nat) : Int)) (Yl.load rfl (Lds.one Tryz.isAgg5 (((H28.ro hx0).elem eB_len hx38 (by decide)).at_ (k := 0) rfl))) (Kz (.bool (decide (((x37.toNat : Nat) : Int) ≥ 128))) (nt ?_))))))))))))
  by_cases h41 : ((x37.toNat : Nat) : Int) ≥ 128
  refine jT (dT h41) (Wp.exit (Fin.thenX (Fin.blockX (Fin.then (Wp.region (Mz rfl (fw (.int .i64 ((k24 + 1 : Nat) : Int)) (Yl.int (e := IntKind.i64.wrap (((k24 : Nat) : Int) + 1)) yk (by rw [IntWalk.i64_in _ (by omega)]; omega)) (Az rfl (WL.nil ?_)))))))))
  have H42 := H28.pick [] (by decide) rfl
  exact Fin.round (k24 + 1) ⟨rfl, rfl, rfl, rfl, rfl, trivial⟩ (dm32.2 ⟨H42, by omega, by omega, et (hq33) (et (congrArg (fun q => r01_ReadNum_L0 l0 q k24) hd39) (et (ip h40) (ip h41)))⟩) (by show l0.length - (k24 + 1) < l0.length - k24; omega)
  refine jF (dF h41) (Wp.skip (Fin.then (sr (An rfl (Wp.seq (sr (Mz rfl (An rfl (Wp.block ?_)))))))))
  have H47 := H28.pick [] (by decide) rfl
  obtain ⟨I51, hI52⟩ : ∃ q : (Nat × Int × Nat) → World → Prop, q = fun (i : Nat × Int × Nat) w' => Own w D w' [] ∧ (-1 ≤ i.2.1 ∧ i.2.1 < ((l0.length : Nat) : Int) ∧ i.1 ≤ 18446744073709551615 ∧ Int.toNat (i.2.1 + 1) < i.2.2 ∧ r01_ReadNum_L1 l0 k24 ((Int.toNat (((k24 : Nat) : Int) + 1)) + 1) 0 ((k24 : Nat) : Int) = r01_ReadNum_L1 l0 k24 i.2.2 i.1 i.2.1) := ⟨_, rfl⟩
  have dm53 : ∀ {k43 : Nat} {z44 : Int} {f46 : Nat} {w' : World}, I51 (k43, z44, f46) w' ↔ Own w D w' [] ∧ -1 ≤ z44 ∧ z44 < ((l0.length : Nat) : Int) ∧ k43 ≤ 18446744073709551615 ∧ Int.toNat (z44 + 1) < f46 ∧ r01_ReadNum_L1 l0 k24 ((Int.toNat (((k24 : Nat) : Int) + 1)) + 1) 0 ((k24 : Nat) : Int) = r01_ReadNum_L1 l0 k24 f46 k43 z44 := by intros; subst hI52; exact Iff.rfl
  refine Wp.loop (fun i : Nat × Int × Nat => [(6, .int .u64 ((i.1 : Nat) : Int)), (7, .int .i64 i.2.1), (23, .int .i64 ((k24 : Nat) : Int)), (22, .bool (decide (((x37.toNat : Nat) : Int) ≥ 128))), (21, .int .u8 ((x37.toNat : Nat) : Int)), (20, .pointer (some ⟨ab A0, ao A0 + k24 * 1, none⟩)), (19, .int .i64 ((k24 : Nat) : Int)), (18, .slice A0 l0.length c0), (15, .bool (decide (((k24 : Nat) : Int) < 10))), (14, .bool (decide (((k24 : Nat) : Int) < 10))), (13, .int .i64 ((k24 : Nat) : Int)), (12, .bool (decide (((k24 : Nat) : Int) < ((l0.length : Nat) : Int)))), (11, .bool (decide (((k24 : Nat) : Int) < ((l0.length : Nat) : Int)))), (10, .int .i64 ((l0.length : Nat) : Int)), (9, .slice A0 l0.length c0), (8, .int .i64 ((k24 : Nat) : Int)), (2, .int .u64 0), (3, .int .i64 0), (4, .int .i64 0), (5, .int .i64 ((k24 : Nat) : Int)), (0, .slice A0 l0.length c0)]) I51 (fun i => i.2.2) (0, ((k24 : Nat) : Int), (Int.toNat (((k24 : Nat) : Int) + 1)) + 1) ⟨rfl, rfl, rfl, rfl, rfl, rfl, rfl, rfl, rfl, rfl, rfl, rfl, rfl, rfl, rfl, rfl, rfl, rfl, rfl, rfl, rfl, trivial⟩ (dm53.2 ⟨H47, by omega, by omega, by first | exact Nat.zero_le _ | exact wrapN_u64 _ | omega, by omega, rfl⟩) ?_
  rintro ⟨k43, z44, f46⟩ w48 hf50
  show Wp _ _ _ [(6, .int .u64 ((k43 : Nat) : Int)), (7, .int .i64 z44), (23, .int .i64 ((k24 : Nat) : Int)), (22, .bool (decide (((x37.toNat : Nat) : Int) ≥ 128))), (21, .int .u8 ((x37.toNat : Nat) : Int)), (20, .pointer (some ⟨ab A0, ao A0 + k24 * 1, none⟩)), (19, .int .i64 ((k24 : Nat) : Int)), (18, .slice A0 l0.length c0), (15, .bool (decide (((k24 : Nat) : Int) < 10))), (14, .bool (decide (((k24 : Nat) : Int) < 10))), (13, .int .i64 ((k24 : Nat) : Int)), (12, .bool (decide (((k24 : Nat) : Int) < ((l0.length : Nat) : Int)))), (11, .bool (decide (((k24 : Nat) : Int) < ((l0.length : Nat) : Int)))), (10, .int .i64 ((l0.length : Nat) : Int)), (9, .slice A0 l0.length c0), (8, .int .i64 ((k24 : Nat) : Int)), (2, .int .u64 0), (3, .int .i64 0), (4, .int .i64 0), (5, .int .i64 ((k24 : Nat) : Int)), (0, .slice A0 l0.length c0)] _ _
  obtain ⟨H49, hi55, hi56, hi57, hi58, hq54⟩ := dm53.1 hf50
  obtain ⟨f59, hf60⟩ : ∃ q, f46 = q + 1 := ⟨f46 - 1, by omega⟩
  subst hf60
  refine Wp.seq (sr (Mz rfl (Kz (.bool (decide (z44 ≥ 0))) (nt ?_))))
  by_cases h61 : z44 ≥ 0
  refine jT (dT h61) (Wp.skip (Fin.then (Wp.seq (Wp.block (Wp.region (Mz rfl (fw (.int .u64 ((Int.toNat (IntKind.u64.wrap (((k43 : Nat) : Int) * 128)) : Nat) : Int)) (Yl.int (e := IntKind.u64.wrap (((k43 : Nat) : Int) * 128)) yk (wrap_nat_u64 _)) (Mz rfl (fw (.int .i64 ((Int.toNat z44 : Nat) : Int)) (Yl.int (e := z44) (Yl.move rfl) (by omega)) ?_)))))))))
  obtain ⟨x62, hx63⟩ := rds_at (ls := l0) (i := Int.toNat z44) eB_len (by decide) (H49.ro hx0) (by first | omega | (simp; done) | (simp; omega))
  refine fw (.pointer (some ⟨ab A0, ao A0 + (Int.toNat z44) * 1, none⟩)) (Yl.indexAddr (El31) rfl rfl ((H49.ro hx0).addr (i := Int.toNat z44) (by omega)) (by omega)) (fw (.int .u8 ((x62.toNat : Nat) : Int)) (Yl.load rfl (Lds.one Tryz.isAgg5 (((H49.ro hx0).elem eB_len hx63 (by decide)).at_ (k := 0) rfl))) (fw (.int .u8 ((x62.toNat % 128 : Nat) : Int)) (Yl.int (e := Int.tmod ((x62.toNat : Nat) : Int) 128) yk (tmodN _ _)) ?_))
  have hz64 : x62.toNat % 128 ≤ 255 := by have q9 := UInt8.toNat_lt x62; omega
  refine fw (.int .u64 ((x62.toNat % 128 : Nat) : Int)) (Yl.int (e := IntKind.u64.wrap ((x62.toNat % 128 : Nat) : Int)) yk (IntWalk.u64_in _ (by omega))) (fw (.int .u64 ((Int.toNat (IntKind.u64.wrap (((Int.toNat (IntKind.u64.wrap (((k43 : Nat) : Int) * 128)) : Nat) : Int) + ((x62.toNat % 128 : Nat) : Int))) : Nat) : Int)) (Yl.int (e := IntKind.u64.wrap (((Int.toNat (IntKind.u64.wrap (((k43 : Nat) : Int) * 128)) : Nat) : Int) + ((x62.toNat % 128 : Nat) : Int))) yk (wrap_nat_u64 _)) (Az rfl (WL.nil (Fin.blockN (Fin.then (Wp.region (Mz rfl (fw (.int .i64 (z44 - 1)) (Yl.int (e := IntKind.i64.wrap (z44 - 1)) yk (by rw [IntWalk.i64_in _ (by omega)])) (Az rfl (WL.nil ?_))))))))))
  have H65 := H49.pick [] (by decide) rfl
  exact Fin.round (Int.toNat (IntKind.u64.wrap (((Int.toNat (IntKind.u64.wrap (((k43 : Nat) : Int) * 128)) : Nat) : Int) + ((x62.toNat % 128 : Nat) : Int))), z44 - 1, f59) ⟨rfl, rfl, rfl, rfl, rfl, rfl, rfl, rfl, rfl, rfl, rfl, rfl, rfl, rfl, rfl, rfl, rfl, rfl, rfl, rfl, rfl, trivial⟩ (dm53.2 ⟨H65, by omega, by omega, by first | exact Nat.zero_le _ | exact wrapN_u64 _ | omega, by omega, et (hq54) (et (ip h61) (bnd_of (getD_of hx63)))⟩) (by show f59 < f59 + 1; omega)
  refine jF (dF h61) (Wp.exit (Fin.thenX ?_))
  have hL66 : r01_ReadNum_L1 l0 k24 ((Int.toNat (((k24 : Nat) : Int) + 1)) + 1) 0 ((k24 : Nat) : Int) = k43 := et (hq54) (iN h61)
  refine Fin.thenX (Fin.blockX (Fin.then (Wp.seq (Wp.seq ?_))))
  have H68 := H49.drew
  refine Wp.drawnX [] (fun W => ∃ L', Own w D W ([] ++ L')) (by kernel_rfl) (by kernel_rfl) (NoP.then (NoP.then (NoP.block (NoP.then (NoP.then (NoP.block (NoP.then NoP.base))))))) ⟨_, H68⟩ ?_
  revert H68
  generalize World.drew w48 = w67
  intro H68
  refine GX.take (v := .int .u64 ((k43 : Nat) : Int)) (rs := []) 0 rfl (by kernel_rfl) (fun _ _ => Yl.move rfl) (GX.take (v := .slice A0 l0.length c0) (rs := []) 3 rfl (by kernel_rfl) (fun _ _ => Yl.move rfl) (GX.take (v := .int .i64 ((k24 : Nat) : Int)) (rs := []) 4 rfl (by kernel_rfl) (fun _ _ => Yl.move rfl) (GX.take (v := .int .i64 ((k24 + 1 : Nat) : Int)) (rs := []) 5 rfl (by kernel_rfl) (fun _ _ => Yl.int (e := IntKind.i64.wrap (((k24 : Nat) : Int) + 1)) yk (by rw [IntWalk.i64_in _ (by omega)]; omega)) (GX.take (v := .slice A0 (k24 + 1) c0) (rs := []) 6 rfl (by kernel_rfl) (fun _ _ => Yl.cutTo (El31) rfl rfl (by omega)) (GX.take (v := .string ⟨List.toArray (List.take (k24 + 1) l0)⟩) (rs := []) 7 rfl (by kernel_rfl) (fun _ ⟨_, H9⟩ => Yl.toStringE (l := (List.take (k24 + 1) l0)) Tryz.underlying31 Tryz.underlying5 Tryz.underlying9 (Rds.toE (hi := k24 + 1) eB_len (H9.ro hx0) (by omega)) rfl) ?_)))))
  obtain ⟨r74, hr75⟩ : ∃ q, r01_Num k43 = q := ⟨_, rfl⟩
  obtain ⟨D69, HP70, ro71, bk72, rr73⟩ := Own.enter0 H68
  refine GX.do 1 rfl (by kernel_rfl) (Do.call Tryz.call63 rfl (r01_Num_ok _ _ k43 r74 HP70 (by omega) hr75) ?_)
  rintro _ w76 ⟨A79, c80, rfl, HQ77, hk81, hk82⟩
  have H78 := bk72 _ _ HQ77
  have hb83 := H78.rowC (i := 0) rfl
  replace hk81 : RecN k43 r74.length := hk81
  replace hk82 : 1 ≤ r74.length ∧ r74.length ≤ 10 := hk82
  refine ⟨.inr ⟨_, H78⟩, ?_⟩
  refine GX.more (Good' := fun W => ∃ L', Own w D W ([row A79 r74.length c80 (List.flatMap eB r74) 5 1] ++ L')) (fun _ ⟨L', h⟩ => ⟨[row A79 r74.length c80 (List.flatMap eB r74) 5 1] ++ L', h⟩) ⟨_, H78⟩ (GX.take (v := .string ⟨List.toArray r74⟩) (rs := []) 2 rfl (by kernel_rfl) (fun _ ⟨_, H9⟩ => Yl.toStringE (l := r74) Tryz.underlying31 Tryz.underlying5 Tryz.underlying9 (H9.rds (i := 0) rfl) rfl) (GX.take (v := .bool (decide (r74 ≠ (List.take (k24 + 1) l0)))) (rs := []) 8 rfl (by kernel_rfl) (fun _ _ => Yl.strNe rfl rfl) (GX.done (by kernel_rfl) (Fin.then ?_))))
  by_cases h84 : r74 ≠ (List.take (k24 + 1) l0)
  refine jT (dT h84) (sr (Az rfl (Az rfl (An rfl (Wp.ret (Fin.thenR (Fin.blockR (Fin.thenR (Fin.thenR (Fin.blockR (Fin.thenR (Fin.res (res3 rfl rfl rfl rfl) ?_))))))))))))
  have H85 := H78.pick [] (by decide) rfl
  have e : r01_ReadNum l0 = (0, 0, 11) := lp_r (lpS_r (et (hq33) (et (congrArg (fun q => r01_ReadNum_L0 l0 q k24) hd39) (et (ip h40) (et (iN h41) (et (bnd_of hL66) (et (bnd_of hr75) (ip h84))))))))
  obtain ⟨rfl, rfl, rfl⟩ := pj3 (e.symm.trans hr)
  exact ⟨rfl, H85, (by omega), (by omega)⟩
  refine jF (dF h84) (Wp.skip (Fin.then (sr (Mz rfl (Mz rfl (fw (.int .i64 ((k24 + 1 : Nat) : Int)) (Yl.int (e := IntKind.i64.wrap (((k24 : Nat) : Int) + 1)) yk (by rw [IntWalk.i64_in _ (by omega)]; omega)) (Az rfl (Az rfl (An rfl (Wp.ret (Fin.blockR (Fin.thenR (Fin.thenR (Fin.blockR (Fin.thenR (Fin.res (res3 rfl rfl rfl rfl) ?_))))))))))))))))
  have H86 := H78.pick [] (by decide) rfl
  have e : r01_ReadNum l0 = (k43, ((k24 + 1 : Nat) : Int), 0) := lp_r (lpS_r (et (hq33) (et (congrArg (fun q => r01_ReadNum_L0 l0 q k24) hd39) (et (ip h40) (et (iN h41) (et (bnd_of hL66) (et (bnd_of hr75) (iN h84))))))))
  obtain ⟨rfl, rfl, rfl⟩ := pj3 (e.symm.trans hr)
  exact ⟨rfl, H86, (by omega), (by omega)⟩
  refine jF (dF h40) (Wp.exit (Fin.thenX (Fin.thenX (Fin.blockX ?_))))
  have H87 := H28.pick [] (by decide) rfl
  exact Fin.join () ⟨rfl, rfl, rfl, rfl, trivial⟩ (dm23.2 ⟨H87, lpS_l (et (hq33) (et (congrArg (fun q => r01_ReadNum_L0 l0 q k24) hd39) (iN h40)))⟩)
  refine Sz (dF h36) (Sz (dF h36) (fw (.bool false) (Yl.pickF rfl (dF h36) rfl) (nt (jf (Wp.exit (Fin.thenX (Fin.thenX (Fin.blockX ?_))))))))
  have H88 := H28.pick [] (by decide) rfl
  exact Fin.join () ⟨rfl, rfl, rfl, rfl, trivial⟩ (dm23.2 ⟨H88, lpS_l (et (hq33) (et (congrArg (fun q => r01_ReadNum_L0 l0 q k24) (drop_end (ls := l0) (i := k24) (by omega))) rfl))⟩)
  rintro ⟨⟩ w89 hf91
  show Wp _ _ _ [(2, .int .u64 0), (3, .int .i64 0), (4, .int .i64 0), (0, .slice A0 l0.length c0)] _ _
  obtain ⟨H90, hj92⟩ := dm23.1 hf91
  refine Wp.seq (sr (Mz rfl (Kz (.int .i64 ((l0.length : Nat) : Int)) (Kz (.bool (decide (((l0.length : Nat) : Int) ≥ 10))) (nt ?_)))))
  by_cases h93 : ((l0.length : Nat) : Int) ≥ 10
  refine jT (dT h93) (sr (Az rfl (Az rfl (An rfl (Wp.ret (Fin.thenR (Fin.res (res3 rfl rfl rfl rfl) ?_)))))))
  have H94 := H90.pick [] (by decide) rfl
  have e : r01_ReadNum l0 = (0, 0, 11) := et (lp_l hj92) (ip h93)
  obtain ⟨rfl, rfl, rfl⟩ := pj3 (e.symm.trans hr)
  exact ⟨rfl, H94, (by omega), (by omega)⟩
  refine jF (dF h93) (Wp.skip (Fin.then (sr (Az rfl (Az rfl (An rfl (Wp.ret (Fin.res (res3 rfl rfl rfl rfl) ?_))))))))
  have H95 := H90.pick [] (by decide) rfl
  have e : r01_ReadNum l0 = (0, 0, 10) := et (lp_l hj92) (iN h93)
  obtain ⟨rfl, rfl, rfl⟩ := pj3 (e.symm.trans hr)
  exact ⟨rfl, H95, (by omega), (by omega)⟩
def r01_ReadText (l0 : List UInt8) (p1 : Int) : (List UInt8) × Int × Int :=
  bnd (r01_ReadNum l0) fun yr26 => if yr26.2.2 = 0 then if p1 < 0 then ([], 0, 2) else if ((yr26.1 : Nat) : Int) > ((Int.toNat (IntKind.u64.wrap p1) : Nat) : Int) then ([], 0, 2) else if ((yr26.1 : Nat) : Int) > ((Int.toNat (((l0.length : Nat) : Int) - yr26.2.1) : Nat) : Int) then ([], 0, 10) else ((List.take ((Int.toNat (yr26.2.1 + ((yr26.1 : Nat) : Int))) - (Int.toNat yr26.2.1)) (List.drop (Int.toNat yr26.2.1) l0)), yr26.2.1 + ((yr26.1 : Nat) : Int), 0) else ([], 0, yr26.2.2)
set_option maxRecDepth 100000 in
theorem r01_ReadText_ok (w : World) (D : Nat → Prop) (A0 : Option Addr) (n0 c0 : Nat) (l0 : List UInt8) (p1 : Int) (r0 : List UInt8) (r1 : Int) (r2 : Int) (H : Own w D w []) (hx0 : Ro w D fun w' => Rds w' 1 A0 n0 (List.flatMap eB l0)) (hn0 : n0 = l0.length) (hl0 : l0.length ≤ 9223372036854775807) (hq0 : l0.length ≤ c0) (hr : r01_ReadText l0 p1 = (r0, r1, r2)) :
    Calls Tryz.prog 115 #[.slice A0 n0 c0, .int .i64 p1] w (Ret fun v w' => v = .tuple #[.string ⟨List.toArray r0⟩, .int .i64 r1, .int .i64 r2] ∧ Own w D w' [] ∧ (¬ (r2 = 0) ∨ (1 ≤ r1 ∧ r1 ≤ ((l0.length : Nat) : Int) ∧ r0.length ≤ l0.length))) := by
  subst hn0
  refine Calls.body (args := [.slice A0 l0.length c0, .int .i64 p1]) Tryz.func115 rfl rfl rfl ?_
  show Wp _ _ _ [(0, .slice A0 l0.length c0), (1, .int .i64 p1)] _ _
  refine sr (Az rfl (Az rfl (Ar rfl (Mz rfl ?_))))
  obtain ⟨⟨r26, r27, r28⟩, hr29⟩ : ∃ q : Nat × Int × Int, r01_ReadNum l0 = q := ⟨_, rfl⟩
  obtain ⟨D21, HP22, ro23, bk24, rr25⟩ := Own.enter0 H
  refine cl Tryz.call89 (r01_ReadNum_ok _ _ A0 l0.length c0 l0 r26 r27 r28 HP22 (ro23 _ hx0) rfl (by omega) (by first | omega | (simp only [List.length_take, List.length_drop]; omega) | exact Nat.le_refl _) hr29) ?_
  rintro _ w30 ⟨rfl, HQ31, hk33, hk34⟩
  have H32 := bk24 _ _ HQ31
  replace hk33 : ¬ (r28 = 0) ∨ (1 ≤ r27 ∧ r27 ≤ 10 ∧ r27 ≤ ((l0.length : Nat) : Int)) := hk33
  replace hk34 : r26 ≤ 18446744073709551615 := hk34
  refine Mz rfl (Kz (.int .u64 ((r26 : Nat) : Int)) (Kz (.int .i64 r27) (Kz (.int .i64 r28) (Az rfl (Az rfl (An rfl (Wp.seq (sr (Mz rfl (fw (.bool (decide (¬ (r28 = 0)))) (Yl.bool (e := !(decide (r28 = 0))) yk decide_not.symm) (nt ?_)))))))))))
  by_cases h35 : r28 = 0
  refine jF (dF (not_not_intro h35)) (Wp.skip (Fin.then (Wp.seq (sr (Mz rfl (Kz (.bool (decide (p1 < 0))) (Mz rfl ?_)))))))
  by_cases h36 : p1 < 0
  refine Sz (dT h36) (Sz (dT h36) (Sz (dT h36) (Sz (dT h36) (fw (.bool true) (Yl.pickT rfl (dT h36) rfl) (nt (jt (sr (Az rfl (Az rfl (An rfl (Wp.ret (Fin.thenR (Fin.res (res3 rfl rfl rfl rfl) ?_)))))))))))))
  have H37 := H32.pick [] (by decide) rfl
  have e : r01_ReadText l0 p1 = ([], 0, 2) := et (bnd_of hr29) (et (ip h35) (ip h36))
  obtain ⟨rfl, rfl, rfl⟩ := pj3 (e.symm.trans hr)
  exact ⟨rfl, H37, (by first | omega | (simp only [List.length_take, List.length_drop]; omega))⟩
  refine WL.valG (v := .int .u64 ((r26 : Nat) : Int)) rfl rfl (dF h36) rfl (Yl.move rfl) (WL.valG (v := .int .i64 p1) rfl rfl (dF h36) rfl (Yl.move rfl) ?_)
  have hz38 : Int.toNat (IntKind.u64.wrap p1) ≤ 18446744073709551615 := wrapN_u64 _
  refine WL.valG (v := .int .u64 ((Int.toNat (IntKind.u64.wrap p1) : Nat) : Int)) rfl rfl (dF h36) rfl (Yl.int (e := IntKind.u64.wrap p1) yk (wrap_nat_u64 _)) (Gz (.bool (decide (((r26 : Nat) : Int) > ((Int.toNat (IntKind.u64.wrap p1) : Nat) : Int)))) (dF h36) (fw (.bool (decide (((r26 : Nat) : Int) > ((Int.toNat (IntKind.u64.wrap p1) : Nat) : Int)))) (Yl.pickF rfl (dF h36) rfl) (nt ?_)))
  by_cases h39 : ((r26 : Nat) : Int) > ((Int.toNat (IntKind.u64.wrap p1) : Nat) : Int)
  refine jT (dT h39) (sr (Az rfl (Az rfl (An rfl (Wp.ret (Fin.thenR (Fin.res (res3 rfl rfl rfl rfl) ?_)))))))
  have H40 := H32.pick [] (by decide) rfl
  have e : r01_ReadText l0 p1 = ([], 0, 2) := et (bnd_of hr29) (et (ip h35) (et (iN h36) (ip h39)))
  obtain ⟨rfl, rfl, rfl⟩ := pj3 (e.symm.trans hr)
  exact ⟨rfl, H40, (by first | omega | (simp only [List.length_take, List.length_drop]; omega))⟩
  refine jF (dF h39) (Wp.skip (Fin.then (Wp.seq (sr (Mz rfl (Mz rfl (Kz (.int .i64 ((l0.length : Nat) : Int)) (Mz rfl (fw (.int .i64 (((l0.length : Nat) : Int) - r27)) (Yl.int (e := IntKind.i64.wrap (((l0.length : Nat) : Int) - r27)) yk (by rw [IntWalk.i64_in _ (by omega)])) (fw (.int .u64 ((Int.toNat (((l0.length : Nat) : Int) - r27) : Nat) : Int)) (Yl.int (e := IntKind.u64.wrap (((l0.length : Nat) : Int) - r27)) yk (by rw [IntWalk.u64_in _ (by omega)]; omega)) (Kz (.bool (decide (((r26 : Nat) : Int) > ((Int.toNat (((l0.length : Nat) : Int) - r27) : Nat) : Int)))) (nt ?_))))))))))))
  by_cases h41 : ((r26 : Nat) : Int) > ((Int.toNat (((l0.length : Nat) : Int) - r27) : Nat) : Int)
  refine jT (dT h41) (sr (Az rfl (Az rfl (An rfl (Wp.ret (Fin.thenR (Fin.res (res3 rfl rfl rfl rfl) ?_)))))))
  have H42 := H32.pick [] (by decide) rfl
  have e : r01_ReadText l0 p1 = ([], 0, 10) := et (bnd_of hr29) (et (ip h35) (et (iN h36) (et (iN h39) (ip h41))))
  obtain ⟨rfl, rfl, rfl⟩ := pj3 (e.symm.trans hr)
  exact ⟨rfl, H42, (by first | omega | (simp only [List.length_take, List.length_drop]; omega))⟩
  refine jF (dF h41) (Wp.skip (Fin.then (sr (Mz rfl (fw (.int .i64 ((Int.toNat r27 : Nat) : Int)) (Yl.int (e := r27) (Yl.move rfl) (by omega)) (Mz rfl (Mz rfl (fw (.int .i64 ((r26 : Nat) : Int)) (Yl.int (e := IntKind.i64.wrap ((r26 : Nat) : Int)) yk (IntWalk.i64_in _ (by omega))) (fw (.int .i64 ((Int.toNat (r27 + ((r26 : Nat) : Int)) : Nat) : Int)) (Yl.int (e := IntKind.i64.wrap (r27 + ((r26 : Nat) : Int))) yk (by rw [IntWalk.i64_in _ (by omega)]; omega)) (fw (.slice (cutA A0 (Int.toNat r27) 1 c0) ((Int.toNat (r27 + ((r26 : Nat) : Int))) - (Int.toNat r27)) (c0 - (Int.toNat r27))) (Yl.cut (El31) rfl rfl rfl (by omega) (by omega)) (fw (.string ⟨List.toArray (List.take ((Int.toNat (r27 + ((r26 : Nat) : Int))) - (Int.toNat r27)) (List.drop (Int.toNat r27) l0))⟩) (Yl.toStringE (l := (List.take ((Int.toNat (r27 + ((r26 : Nat) : Int))) - (Int.toNat r27)) (List.drop (Int.toNat r27) l0))) Tryz.underlying31 Tryz.underlying5 Tryz.underlying9 (Rds.cutE (lo := Int.toNat r27) (hi := Int.toNat (r27 + ((r26 : Nat) : Int))) eB_len (H32.ro hx0) (by omega) (by omega) (by omega)) rfl) (Mz rfl (Mz rfl (fw (.int .i64 ((r26 : Nat) : Int)) (Yl.int (e := IntKind.i64.wrap ((r26 : Nat) : Int)) yk (IntWalk.i64_in _ (by omega))) (fw (.int .i64 (r27 + ((r26 : Nat) : Int))) (Yl.int (e := IntKind.i64.wrap (r27 + ((r26 : Nat) : Int))) yk (by rw [IntWalk.i64_in _ (by omega)])) (Az rfl (Az rfl (An rfl (Wp.ret (Fin.res (res3 rfl rfl rfl rfl) ?_))))))))))))))))))))
  have H43 := H32.pick [] (by decide) rfl
  have e : r01_ReadText l0 p1 = ((List.take ((Int.toNat (r27 + ((r26 : Nat) : Int))) - (Int.toNat r27)) (List.drop (Int.toNat r27) l0)), r27 + ((r26 : Nat) : Int), 0) := et (bnd_of hr29) (et (ip h35) (et (iN h36) (et (iN h39) (iN h41))))
  obtain ⟨rfl, rfl, rfl⟩ := pj3 (e.symm.trans hr)
  exact ⟨rfl, H43, (by first | omega | (simp only [List.length_take, List.length_drop]; omega))⟩
  refine jT (dT h35) (sr (Mz rfl (Az rfl (Az rfl (An rfl (Wp.ret (Fin.thenR (Fin.res (res3 rfl rfl rfl rfl) ?_))))))))
  have H44 := H32.pick [] (by decide) rfl
  have e : r01_ReadText l0 p1 = ([], 0, r28) := et (bnd_of hr29) (iN h35)
  obtain ⟨rfl, rfl, rfl⟩ := pj3 (e.symm.trans hr)
  exact ⟨rfl, H44, (by first | omega | (simp only [List.length_take, List.length_drop]; omega))⟩
def r01_ReadFixed (l0 : List UInt8) : Nat × Int :=
  if ((l0.length : Nat) : Int) < 4 then (0, 10) else bnd (List.getD l0 0 default) fun yx25 => bnd (List.getD l0 1 default) fun yx28 => bnd (List.getD l0 2 default) fun yx33 => bnd (List.getD l0 3 default) fun yx38 => (bOr32 (bOr32 (bOr32 yx25.toNat (bShl32 yx28.toNat 8)) (bShl32 yx33.toNat 16)) (bShl32 yx38.toNat 24), 0)
set_option maxRecDepth 100000 in
theorem r01_ReadFixed_ok (w : World) (D : Nat → Prop) (A0 : Option Addr) (n0 c0 : Nat) (l0 : List UInt8) (r0 : Nat) (r1 : Int) (H : Own w D w []) (hx0 : Ro w D fun w' => Rds w' 1 A0 n0 (List.flatMap eB l0)) (hn0 : n0 = l0.length) (hl0 : l0.length * 1 ≤ 211106232532992) (hr : r01_ReadFixed l0 = (r0, r1)) :
    Calls Tryz.prog 88 #[.slice A0 n0 c0] w (Ret fun v w' => v = .tuple #[.int .u32 ((r0 : Nat) : Int), .int .i64 r1] ∧ Own w D w' []) := by
  subst hn0
  refine Calls.body (args := [.slice A0 l0.length c0]) Tryz.func88 rfl rfl rfl ?_
  show Wp _ _ _ [(0, .slice A0 l0.length c0)] _ _
  refine sr (Az rfl (An rfl (Wp.seq (sr (Mz rfl (Kz (.int .i64 ((l0.length : Nat) : Int)) (Kz (.bool (decide (((l0.length : Nat) : Int) < 4))) (nt ?_))))))))
  by_cases h21 : ((l0.length : Nat) : Int) < 4
  refine jT (dT h21) (sr (Az rfl (An rfl (Wp.ret (Fin.thenR (Fin.res (res2 rfl rfl rfl) ?_))))))
  have H22 : Own w D w [] := H.pick [] (by decide) rfl
  have e : r01_ReadFixed l0 = (0, 10) := ip h21
  obtain ⟨rfl, rfl⟩ := pj2 (e.symm.trans hr)
  exact ⟨rfl, H22⟩
  refine jF (dF h21) (Wp.skip (Fin.then (Wp.seq ?_)))
  have H24 := H.drew
  refine Wp.drawnX [] (fun W => ∃ L', Own w D W ([] ++ L')) (by kernel_rfl) (by kernel_rfl) (NoP.then NoP.base) ⟨_, H24⟩ ?_
  revert H24
  generalize World.drew w = w23
  intro H24
  refine GX.take (v := .slice A0 l0.length c0) (rs := []) 0 rfl (by kernel_rfl) (fun _ _ => Yl.move rfl) ?_
  obtain ⟨x25, hx26⟩ := at_of (ls := l0) (i := 0) (by first | omega | (simp; done) | (simp; omega))
  refine GX.take (v := .pointer (some ⟨ab A0, ao A0 + 0 * 1, none⟩)) (rs := []) 1 rfl (by kernel_rfl) (fun _ ⟨_, H9⟩ => Yl.indexAddr (El31) rfl rfl ((H9.ro hx0).addr (i := 0) (by omega)) (by omega)) (GX.take (v := .int .u8 ((x25.toNat : Nat) : Int)) (rs := []) 2 rfl (by kernel_rfl) (fun _ ⟨_, H9⟩ => Yl.load rfl (Lds.one Tryz.isAgg5 (((H9.ro hx0).elem eB_len hx26 (by decide)).at_ (k := 0) rfl))) ?_)
  have hz27 : x25.toNat ≤ 255 := Nat.le_of_lt_succ (UInt8.toNat_lt _)
  refine GX.take (v := .int .u32 ((x25.toNat : Nat) : Int)) (rs := []) 3 rfl (by kernel_rfl) (fun _ _ => Yl.int (e := IntKind.u32.wrap ((x25.toNat : Nat) : Int)) yk (IntWalk.u32_in _ (by omega))) (GX.take (v := .slice A0 l0.length c0) (rs := []) 4 rfl (by kernel_rfl) (fun _ _ => Yl.move rfl) ?_)
  obtain ⟨x28, hx29⟩ := at_of (ls := l0) (i := 1) (by first | omega | (simp; done) | (simp; omega))
  refine GX.take (v := .pointer (some ⟨ab A0, ao A0 + 1 * 1, none⟩)) (rs := []) 5 rfl (by kernel_rfl) (fun _ ⟨_, H9⟩ => Yl.indexAddr (El31) rfl rfl ((H9.ro hx0).addr (i := 1) (by omega)) (by omega)) (GX.take (v := .int .u8 ((x28.toNat : Nat) : Int)) (rs := []) 6 rfl (by kernel_rfl) (fun _ ⟨_, H9⟩ => Yl.load rfl (Lds.one Tryz.isAgg5 (((H9.ro hx0).elem eB_len hx29 (by decide)).at_ (k := 0) rfl))) ?_)
  have hz30 : x28.toNat ≤ 255 := Nat.le_of_lt_succ (UInt8.toNat_lt _)
  refine GX.take (v := .int .u32 ((x28.toNat : Nat) : Int)) (rs := []) 7 rfl (by kernel_rfl) (fun _ _ => Yl.int (e := IntKind.u32.wrap ((x28.toNat : Nat) : Int)) yk (IntWalk.u32_in _ (by omega))) ?_
  have hz31 : bShl32 x28.toNat 8 ≤ 4294967295 := bShl32_le _ _
  refine GX.take (v := .int .u32 ((bShl32 x28.toNat 8 : Nat) : Int)) (rs := []) 8 rfl (by kernel_rfl) (fun _ _ => Yl.int (Yl.shl (m := 8) rfl rfl) (wrap_nat_u32 _)) ?_
  have hz32 : bOr32 x25.toNat (bShl32 x28.toNat 8) ≤ 4294967295 := bOr32_le _ _
  refine GX.take (v := .int .u32 ((bOr32 x25.toNat (bShl32 x28.toNat 8) : Nat) : Int)) (rs := []) 9 rfl (by kernel_rfl) (fun _ _ => Yl.int (e := IntKind.u32.wrap (((BitVec.ofInt 32 ((x25.toNat : Nat) : Int) ||| BitVec.ofInt 32 ((bShl32 x28.toNat 8 : Nat) : Int)).toNat : Nat) : Int)) yk (wrap_nat_u32 _)) (GX.take (v := .slice A0 l0.length c0) (rs := []) 10 rfl (by kernel_rfl) (fun _ _ => Yl.move rfl) ?_)
  obtain ⟨x33, hx34⟩ := at_of (ls := l0) (i := 2) (by first | omega | (simp; done) | (simp; omega))
  refine GX.take (v := .pointer (some ⟨ab A0, ao A0 + 2 * 1, none⟩)) (rs := []) 11 rfl (by kernel_rfl) (fun _ ⟨_, H9⟩ => Yl.indexAddr (El31) rfl rfl ((H9.ro hx0).addr (i := 2) (by omega)) (by omega)) (GX.take (v := .int .u8 ((x33.toNat : Nat) : Int)) (rs := []) 12 rfl (by kernel_rfl) (fun _ ⟨_, H9⟩ => Yl.load rfl (Lds.one Tryz.isAgg5 (((H9.ro hx0).elem eB_len hx34 (by decide)).at_ (k := 0) rfl))) ?_)
  have hz35 : x33.toNat ≤ 255 := Nat.le_of_lt_succ (UInt8.toNat_lt _)
  refine GX.take (v := .int .u32 ((x33.toNat : Nat) : Int)) (rs := []) 13 rfl (by kernel_rfl) (fun _ _ => Yl.int (e := IntKind.u32.wrap ((x33.toNat : Nat) : Int)) yk (IntWalk.u32_in _ (by omega))) ?_
  have hz36 : bShl32 x33.toNat 16 ≤ 4294967295 := bShl32_le _ _
  refine GX.take (v := .int .u32 ((bShl32 x33.toNat 16 : Nat) : Int)) (rs := []) 14 rfl (by kernel_rfl) (fun _ _ => Yl.int (Yl.shl (m := 16) rfl rfl) (wrap_nat_u32 _)) ?_
  have hz37 : bOr32 (bOr32 x25.toNat (bShl32 x28.toNat 8)) (bShl32 x33.toNat 16) ≤ 4294967295 := bOr32_le _ _
  refine GX.take (v := .int .u32 ((bOr32 (bOr32 x25.toNat (bShl32 x28.toNat 8)) (bShl32 x33.toNat 16) : Nat) : Int)) (rs := []) 15 rfl (by kernel_rfl) (fun _ _ => Yl.int (e := IntKind.u32.wrap (((BitVec.ofInt 32 ((bOr32 x25.toNat (bShl32 x28.toNat 8) : Nat) : Int) ||| BitVec.ofInt 32 ((bShl32 x33.toNat 16 : Nat) : Int)).toNat : Nat) : Int)) yk (wrap_nat_u32 _)) (GX.take (v := .slice A0 l0.length c0) (rs := []) 16 rfl (by kernel_rfl) (fun _ _ => Yl.move rfl) ?_)
  obtain ⟨x38, hx39⟩ := at_of (ls := l0) (i := 3) (by first | omega | (simp; done) | (simp; omega))
  refine GX.take (v := .pointer (some ⟨ab A0, ao A0 + 3 * 1, none⟩)) (rs := []) 17 rfl (by kernel_rfl) (fun _ ⟨_, H9⟩ => Yl.indexAddr (El31) rfl rfl ((H9.ro hx0).addr (i := 3) (by omega)) (by omega)) (GX.take (v := .int .u8 ((x38.toNat : Nat) : Int)) (rs := []) 18 rfl (by kernel_rfl) (fun _ ⟨_, H9⟩ => Yl.load rfl (Lds.one Tryz.isAgg5 (((H9.ro hx0).elem eB_len hx39 (by decide)).at_ (k := 0) rfl))) ?_)
  have hz40 : x38.toNat ≤ 255 := Nat.le_of_lt_succ (UInt8.toNat_lt _)
  refine GX.take (v := .int .u32 ((x38.toNat : Nat) : Int)) (rs := []) 19 rfl (by kernel_rfl) (fun _ _ => Yl.int (e := IntKind.u32.wrap ((x38.toNat : Nat) : Int)) yk (IntWalk.u32_in _ (by omega))) ?_
  have hz41 : bShl32 x38.toNat 24 ≤ 4294967295 := bShl32_le _ _
  refine GX.take (v := .int .u32 ((bShl32 x38.toNat 24 : Nat) : Int)) (rs := []) 20 rfl (by kernel_rfl) (fun _ _ => Yl.int (Yl.shl (m := 24) rfl rfl) (wrap_nat_u32 _)) ?_
  have hz42 : bOr32 (bOr32 (bOr32 x25.toNat (bShl32 x28.toNat 8)) (bShl32 x33.toNat 16)) (bShl32 x38.toNat 24) ≤ 4294967295 := bOr32_le _ _
  refine GX.take (v := .int .u32 ((bOr32 (bOr32 (bOr32 x25.toNat (bShl32 x28.toNat 8)) (bShl32 x33.toNat 16)) (bShl32 x38.toNat 24) : Nat) : Int)) (rs := []) 21 rfl (by kernel_rfl) (fun _ _ => Yl.int (e := IntKind.u32.wrap (((BitVec.ofInt 32 ((bOr32 (bOr32 x25.toNat (bShl32 x28.toNat 8)) (bShl32 x33.toNat 16) : Nat) : Int) ||| BitVec.ofInt 32 ((bShl32 x38.toNat 24 : Nat) : Int)).toNat : Nat) : Int)) yk (wrap_nat_u32 _)) (GX.take (v := .int .u32 ((bOr32 (bOr32 (bOr32 x25.toNat (bShl32 x28.toNat 8)) (bShl32 x33.toNat 16)) (bShl32 x38.toNat 24) : Nat) : Int)) (rs := []) 22 rfl (by kernel_rfl) (fun _ _ => Yl.assign rfl) (GX.take (v := .int .i64 0) (rs := []) 23 rfl (by kernel_rfl) (fun _ _ => Yl.assign rfl) (GX.done (by kernel_rfl) (Fin.then (Wp.ret (Fin.res (res2 rfl rfl rfl) ?_))))))
  have H43 := H24.pick [] (by decide) rfl
  have e : r01_ReadFixed l0 = (bOr32 (bOr32 (bOr32 x25.toNat (bShl32 x28.toNat 8)) (bShl32 x33.toNat 16)) (bShl32 x38.toNat 24), 0) := et (iN h21) (et (bnd_of (getD_of hx26)) (et (bnd_of (getD_of hx29)) (et (bnd_of (getD_of hx34)) (bnd_of (getD_of hx39)))))
  obtain ⟨rfl, rfl⟩ := pj2 (e.symm.trans hr)
  exact ⟨rfl, H43⟩
def r05_Open (l0 : List UInt8) : (List UInt8) × Int :=
  if ((l0.length : Nat) : Int) > 4103 then ([], 2) else if ((l0.length : Nat) : Int) < 6 then ([], 10) else bnd (r01_ReadFixed (List.drop (l0.length - 4) l0)) fun yr33 => bnd (r01_Sum (List.take (l0.length - 4) l0)) fun yr45 => if ((yr33.1 : Nat) : Int) = ((yr45 : Nat) : Int) then bnd (r01_ReadNum (List.take ((l0.length - 4) - 1) (List.drop 1 l0))) fun yr58 => bnd (List.getD l0 0 default) fun yx67 => if ((yx67.toNat : Nat) : Int) = 83 then if yr58.2.2 = 0 then if ((yr58.1 : Nat) : Int) > 4096 then ([], 11) else if ((yr58.1 : Nat) : Int) = (((l0.length - 4) - 1 : Nat) : Int) - yr58.2.1 then ((List.take ((l0.length - 4) - (Int.toNat (1 + yr58.2.1))) (List.drop (Int.toNat (1 + yr58.2.1)) l0)), 0) else ([], 11) else ([], 11) else ([], 11) else ([], 50)
set_option maxRecDepth 100000 in
theorem r05_Open_ok (w : World) (D : Nat → Prop) (A0 : Option Addr) (n0 c0 : Nat) (l0 : List UInt8) (r0 : List UInt8) (r1 : Int) (H : Own w D w []) (hx0 : Ro w D fun w' => Rds w' 1 A0 n0 (List.flatMap eB l0)) (hn0 : n0 = l0.length) (hl0 : l0.length * 1 ≤ 211106232532992) (hq0 : l0.length ≤ c0) (hr : r05_Open l0 = (r0, r1)) :
    Calls Tryz.prog 44 #[.slice A0 n0 c0] w (Ret fun v w' => ∃ (B0 : Option Addr) (b0 : Nat), v = .tuple #[.slice B0 r0.length b0, .int .i64 r1] ∧ Own w D w' [row B0 r0.length b0 (List.flatMap eB r0) 5 1] ∧ (r0.length ≤ l0.length)) := by
  subst hn0
  refine Calls.body (args := [.slice A0 l0.length c0]) Tryz.func44 rfl rfl rfl ?_
  show Wp _ _ _ [(0, .slice A0 l0.length c0)] _ _
  refine sr (Az rfl (An rfl (Wp.seq (sr (Mz rfl (Kz (.int .i64 ((l0.length : Nat) : Int)) (Kz (.bool (decide (((l0.length : Nat) : Int) > 4103))) (nt ?_))))))))
  by_cases h21 : ((l0.length : Nat) : Int) > 4103
  refine jT (dT h21) (sr (Az rfl (An rfl (Wp.ret (Fin.thenR (Fin.res (res2 rfl rfl rfl) ?_))))))
  have H22 : Own w D w [row none 0 0 (List.flatMap eB ([])) 5 1] := H.free (row_nil 5 1)
  have H23 := H22.pick [0] (by decide) rfl
  have e : r05_Open l0 = ([], 2) := ip h21
  obtain ⟨rfl, rfl⟩ := pj2 (e.symm.trans hr)
  exact ⟨none, 0, rfl, H23, (by first | omega | exact Nat.zero_le _ | (simp only [List.length_take, List.length_drop]; omega))⟩
  refine jF (dF h21) (Wp.skip (Fin.then (Wp.seq (sr (Mz rfl (Kz (.int .i64 ((l0.length : Nat) : Int)) (Kz (.bool (decide (((l0.length : Nat) : Int) < 6))) (nt ?_))))))))
  by_cases h24 : ((l0.length : Nat) : Int) < 6
  refine jT (dT h24) (sr (Az rfl (An rfl (Wp.ret (Fin.thenR (Fin.res (res2 rfl rfl rfl) ?_))))))
  have H25 : Own w D w [row none 0 0 (List.flatMap eB ([])) 5 1] := H.free (row_nil 5 1)
  have H26 := H25.pick [0] (by decide) rfl
  have e : r05_Open l0 = ([], 10) := et (iN h21) (ip h24)
  obtain ⟨rfl, rfl⟩ := pj2 (e.symm.trans hr)
  exact ⟨none, 0, rfl, H26, (by first | omega | exact Nat.zero_le _ | (simp only [List.length_take, List.length_drop]; omega))⟩
  refine jF (dF h24) (Wp.skip (Fin.then (sr (Mz rfl (Kz (.int .i64 ((l0.length : Nat) : Int)) (fw (.int .i64 ((l0.length - 4 : Nat) : Int)) (Yl.int (e := IntKind.i64.wrap (((l0.length : Nat) : Int) - 4)) yk (by rw [IntWalk.i64_in _ (by omega)]; omega)) (Ar rfl (Mz rfl (Mz rfl (fw (.slice (cutA A0 (l0.length - 4) 1 c0) (l0.length - (l0.length - 4)) (c0 - (l0.length - 4))) (Yl.cutFrom (El31) rfl rfl (by omega)) ?_))))))))))
  have hz32 : l0.length - (l0.length - 4) = List.length (List.drop (l0.length - 4) l0) := (by first | rfl | omega | (simp only [List.length_append, List.length_cons, List.length_nil, List.length_take, List.length_drop, List.length_set, List.length_replicate, List.length_map] <;> omega))
  obtain ⟨⟨r33, r34⟩, hr35⟩ : ∃ q : Nat × Int, r01_ReadFixed (List.drop (l0.length - 4) l0) = q := ⟨_, rfl⟩
  obtain ⟨D27, HP28, ro29, bk30, rr31⟩ := Own.enter0 H
  refine cl Tryz.call88 (r01_ReadFixed_ok _ _ (cutA A0 (l0.length - 4) 1 c0) (l0.length - (l0.length - 4)) (c0 - (l0.length - 4)) (List.drop (l0.length - 4) l0) r33 r34 HP28 (fun w9 h9 => Rds.fromE (lo := l0.length - 4) eB_len ((ro29 _ hx0) w9 h9) (by omega) (by omega) (by decide)) (by first | rfl | omega | (simp only [List.length_append, List.length_cons, List.length_nil, List.length_take, List.length_drop, List.length_set, List.length_replicate, List.length_map] <;> omega)) (by first | omega | (simp only [List.length_append, List.length_cons, List.length_nil, List.length_take, List.length_drop, List.length_set]; omega)) hr35) ?_
  rintro _ w36 ⟨rfl, HQ37⟩
  have H38 := bk30 _ _ HQ37
  refine Mz rfl (Kz (.int .u32 ((r33 : Nat) : Int)) (Kz (.int .i64 r34) (Az rfl (An rfl (Wp.seq (sr (Mz rfl (Mz rfl (Mz rfl (fw (.slice A0 (l0.length - 4) c0) (Yl.cutTo (El31) rfl rfl (by omega)) ?_))))))))))
  have hz44 : l0.length - 4 = List.length (List.take (l0.length - 4) l0) := (by first | rfl | omega | (simp only [List.length_append, List.length_cons, List.length_nil, List.length_take, List.length_drop, List.length_set, List.length_replicate, List.length_map] <;> omega))
  obtain ⟨r45, hr46⟩ : ∃ q, r01_Sum (List.take (l0.length - 4) l0) = q := ⟨_, rfl⟩
  obtain ⟨D39, HP40, ro41, bk42, rr43⟩ := Own.enter0 H38
  refine cl Tryz.call65 (r01_Sum_ok _ _ A0 (l0.length - 4) c0 (List.take (l0.length - 4) l0) r45 HP40 (fun w9 h9 => Rds.toE (hi := l0.length - 4) eB_len ((ro41 _ hx0) w9 h9) (by omega)) (by first | rfl | omega | (simp only [List.length_append, List.length_cons, List.length_nil, List.length_take, List.length_drop, List.length_set, List.length_replicate, List.length_map] <;> omega)) (by first | omega | (simp only [List.length_append, List.length_cons, List.length_nil, List.length_take, List.length_drop, List.length_set]; omega)) (by first | omega | (simp only [List.length_cons, List.length_nil, List.length_append]; omega)) hr46) ?_
  rintro _ w47 ⟨rfl, HQ48, hk50⟩
  have H49 := bk42 _ _ HQ48
  replace hk50 : r45 ≤ 4294967295 := hk50
  refine fw (.bool (decide (¬ (((r33 : Nat) : Int) = ((r45 : Nat) : Int))))) (Yl.bool (e := !(decide (((r33 : Nat) : Int) = ((r45 : Nat) : Int)))) yk decide_not.symm) (nt ?_)
  by_cases h51 : ((r33 : Nat) : Int) = ((r45 : Nat) : Int)
  refine jF (dF (not_not_intro h51)) (Wp.skip (Fin.then (sr (Mz rfl (Mz rfl (fw (.slice (cutA A0 1 1 c0) ((l0.length - 4) - 1) (c0 - 1)) (Yl.cut (El31) rfl rfl rfl (by omega) (by omega)) ?_))))))
  have hz57 : (l0.length - 4) - 1 = List.length (List.take ((l0.length - 4) - 1) (List.drop 1 l0)) := (by first | rfl | omega | (simp only [List.length_append, List.length_cons, List.length_nil, List.length_take, List.length_drop, List.length_set, List.length_replicate, List.length_map] <;> omega))
  obtain ⟨⟨r58, r59, r60⟩, hr61⟩ : ∃ q : Nat × Int × Int, r01_ReadNum (List.take ((l0.length - 4) - 1) (List.drop 1 l0)) = q := ⟨_, rfl⟩
  obtain ⟨D52, HP53, ro54, bk55, rr56⟩ := Own.enter0 H49
  refine cl Tryz.call89 (r01_ReadNum_ok _ _ (cutA A0 1 1 c0) ((l0.length - 4) - 1) (c0 - 1) (List.take ((l0.length - 4) - 1) (List.drop 1 l0)) r58 r59 r60 HP53 (fun w9 h9 => Rds.cutE (lo := 1) (hi := l0.length - 4) eB_len ((ro54 _ hx0) w9 h9) (by omega) (by omega) (by omega)) (by first | rfl | omega | (simp only [List.length_append, List.length_cons, List.length_nil, List.length_take, List.length_drop, List.length_set, List.length_replicate, List.length_map] <;> omega)) (by first | omega | (simp only [List.length_append, List.length_cons, List.length_nil, List.length_take, List.length_drop, List.length_set]; omega)) (by first | omega | (simp only [List.length_take, List.length_drop]; omega) | exact Nat.le_refl _) hr61) ?_
  rintro _ w62 ⟨rfl, HQ63, hk65, hk66⟩
  have H64 := bk55 _ _ HQ63
  replace hk65 : ¬ (r60 = 0) ∨ (1 ≤ r59 ∧ r59 ≤ 10 ∧ r59 ≤ ((List.length (List.take ((l0.length - 4) - 1) (List.drop 1 l0)) : Nat) : Int)) := hk65
  replace hk66 : r58 ≤ 18446744073709551615 := hk66
  refine Mz rfl (Kz (.int .u64 ((r58 : Nat) : Int)) (Kz (.int .i64 r59) (Kz (.int .i64 r60) (Az rfl (Az rfl (An rfl (Wp.seq (sr (Mz rfl ?_)))))))))
  obtain ⟨x67, hx68⟩ := rds_at (ls := l0) (i := 0) eB_len (by decide) (H64.ro hx0) (by first | omega | (simp; done) | (simp; omega))
  refine fw (.pointer (some ⟨ab A0, ao A0 + 0 * 1, none⟩)) (Yl.indexAddr (El31) rfl rfl ((H64.ro hx0).addr (i := 0) (by omega)) (by omega)) (fw (.int .u8 ((x67.toNat : Nat) : Int)) (Yl.load rfl (Lds.one Tryz.isAgg5 (((H64.ro hx0).elem eB_len hx68 (by decide)).at_ (k := 0) rfl))) (fw (.bool (decide (¬ (((x67.toNat : Nat) : Int) = 83)))) (Yl.bool (e := !(decide (((x67.toNat : Nat) : Int) = 83))) yk decide_not.symm) (Mz rfl ?_)))
  by_cases h69 : ((x67.toNat : Nat) : Int) = 83
  refine WL.valG (v := .int .i64 r60) rfl rfl (dF (not_not_intro h69)) rfl (Yl.move rfl) (WL.valG (v := .bool (decide (¬ (r60 = 0)))) rfl rfl (dF (not_not_intro h69)) rfl (Yl.bool (e := !(decide (r60 = 0))) yk decide_not.symm) (fw (.bool (decide (¬ (r60 = 0)))) (Yl.pickF rfl (dF (not_not_intro h69)) rfl) (Mz rfl ?_)))
  by_cases h70 : r60 = 0
  refine WL.valG (v := .int .u64 ((r58 : Nat) : Int)) rfl rfl (dF (not_not_intro h70)) rfl (Yl.move rfl) (WL.valG (v := .bool (decide (((r58 : Nat) : Int) > 4096))) rfl rfl (dF (not_not_intro h70)) rfl yk (fw (.bool (decide (((r58 : Nat) : Int) > 4096))) (Yl.pickF rfl (dF (not_not_intro h70)) rfl) (Mz rfl ?_)))
  by_cases h71 : ((r58 : Nat) : Int) > 4096
  refine Sz (dT h71) (Sz (dT h71) (Sz (dT h71) (Sz (dT h71) (Sz (dT h71) (Sz (dT h71) (Sz (dT h71) (fw (.bool true) (Yl.pickT rfl (dT h71) rfl) (nt (jt (sr (Az rfl (An rfl (Wp.ret (Fin.thenR (Fin.res (res2 rfl rfl rfl) ?_)))))))))))))))
  have H72 : Own w D w62 [row none 0 0 (List.flatMap eB ([])) 5 1] := H64.free (row_nil 5 1)
  have H73 := H72.pick [0] (by decide) rfl
  have e : r05_Open l0 = ([], 11) := et (iN h21) (et (iN h24) (et (bnd_of hr35) (et (bnd_of hr46) (et (ip h51) (et (bnd_of hr61) (et (bnd_of (getD_of hx68)) (et (ip h69) (et (ip h70) (ip h71)))))))))
  obtain ⟨rfl, rfl⟩ := pj2 (e.symm.trans hr)
  exact ⟨none, 0, rfl, H73, (by first | omega | exact Nat.zero_le _ | (simp only [List.length_take, List.length_drop]; omega))⟩
  refine WL.valG (v := .int .u64 ((r58 : Nat) : Int)) rfl rfl (dF h71) rfl (Yl.move rfl) (WL.valG (v := .int .i64 ((r58 : Nat) : Int)) rfl rfl (dF h71) rfl (Yl.int (e := IntKind.i64.wrap ((r58 : Nat) : Int)) yk (IntWalk.i64_in _ (by omega))) (WL.valG (v := .int .i64 ((l0.length - 4 : Nat) : Int)) rfl rfl (dF h71) rfl (Yl.move rfl) (WL.valG (v := .int .i64 (((l0.length - 4) - 1 : Nat) : Int)) rfl rfl (dF h71) rfl (Yl.int (e := IntKind.i64.wrap (((l0.length - 4 : Nat) : Int) - 1)) yk (by rw [IntWalk.i64_in _ (by omega)]; omega)) (WL.valG (v := .int .i64 r59) rfl rfl (dF h71) rfl (Yl.move rfl) (WL.valG (v := .int .i64 ((((l0.length - 4) - 1 : Nat) : Int) - r59)) rfl rfl (dF h71) rfl (Yl.int (e := IntKind.i64.wrap ((((l0.length - 4) - 1 : Nat) : Int) - r59)) yk (by rw [IntWalk.i64_in _ (by omega)])) (WL.valG (v := .bool (decide (¬ (((r58 : Nat) : Int) = (((l0.length - 4) - 1 : Nat) : Int) - r59)))) rfl rfl (dF h71) rfl (Yl.bool (e := !(decide (((r58 : Nat) : Int) = (((l0.length - 4) - 1 : Nat) : Int) - r59))) yk decide_not.symm) (fw (.bool (decide (¬ (((r58 : Nat) : Int) = (((l0.length - 4) - 1 : Nat) : Int) - r59)))) (Yl.pickF rfl (dF h71) rfl) (nt ?_))))))))
  by_cases h74 : ((r58 : Nat) : Int) = (((l0.length - 4) - 1 : Nat) : Int) - r59
  refine jF (dF (not_not_intro h74)) (Wp.skip (Fin.then (sr (Mz rfl (Mz rfl (fw (.int .i64 ((Int.toNat (1 + r59) : Nat) : Int)) (Yl.int (e := IntKind.i64.wrap (1 + r59)) yk (by rw [IntWalk.i64_in _ (by omega)]; omega)) (Mz rfl (fw (.slice (cutA A0 (Int.toNat (1 + r59)) 1 c0) ((l0.length - 4) - (Int.toNat (1 + r59))) (c0 - (Int.toNat (1 + r59)))) (Yl.cut (El31) rfl rfl rfl (by omega) (by omega)) ?_))))))))
  have hz75 : (l0.length - 4) - (Int.toNat (1 + r59)) = List.length (List.take ((l0.length - 4) - (Int.toNat (1 + r59))) (List.drop (Int.toNat (1 + r59)) l0)) := (by first | rfl | omega | (simp only [List.length_append, List.length_cons, List.length_nil, List.length_take, List.length_drop, List.length_set, List.length_replicate, List.length_map] <;> omega))
  have H76 : Own w D w62 [row none 0 0 (List.flatMap eB ([])) 5 1] := H64.free (row_nil 5 1)
  refine WL.do rfl (Do.appendW (k := 0) (m := (l0.length - 4) - (Int.toNat (1 + r59))) (El31) H76 rfl rfl (src_of Tryz.underlying31 (Rds.cutE (lo := Int.toNat (1 + r59)) (hi := l0.length - 4) eB_len (H76.ro hx0) (by omega) (by omega) (by omega)) (flat_one eB_one (List.take ((l0.length - 4) - (Int.toNat (1 + r59))) (List.drop (Int.toNat (1 + r59)) l0)))) rfl (by omega) (s := List.length (List.take ((l0.length - 4) - (Int.toNat (1 + r59))) (List.drop (Int.toNat (1 + r59)) l0))) (by first | omega | (simp only [List.length_append, List.length_cons, List.length_nil] <;> omega)) rfl ?_)
  intro A77 c78 w79 H80
  refine Az rfl (An rfl (Wp.ret (Fin.res (res2 rfl rfl rfl) ?_)))
  have H81 := H80.pick [0] (by decide) rfl
  have e : r05_Open l0 = ((List.take ((l0.length - 4) - (Int.toNat (1 + r59))) (List.drop (Int.toNat (1 + r59)) l0)), 0) := et (iN h21) (et (iN h24) (et (bnd_of hr35) (et (bnd_of hr46) (et (ip h51) (et (bnd_of hr61) (et (bnd_of (getD_of hx68)) (et (ip h69) (et (ip h70) (et (iN h71) (ip h74))))))))))
  obtain ⟨rfl, rfl⟩ := pj2 (e.symm.trans hr)
  exact ⟨A77, c78, rfl, H81, (by first | omega | exact Nat.zero_le _ | (simp only [List.length_take, List.length_drop]; omega))⟩
  refine jT (dT h74) (sr (Az rfl (An rfl (Wp.ret (Fin.thenR (Fin.res (res2 rfl rfl rfl) ?_))))))
  have H82 : Own w D w62 [row none 0 0 (List.flatMap eB ([])) 5 1] := H64.free (row_nil 5 1)
  have H83 := H82.pick [0] (by decide) rfl
  have e : r05_Open l0 = ([], 11) := et (iN h21) (et (iN h24) (et (bnd_of hr35) (et (bnd_of hr46) (et (ip h51) (et (bnd_of hr61) (et (bnd_of (getD_of hx68)) (et (ip h69) (et (ip h70) (et (iN h71) (iN h74))))))))))
  obtain ⟨rfl, rfl⟩ := pj2 (e.symm.trans hr)
  exact ⟨none, 0, rfl, H83, (by first | omega | exact Nat.zero_le _ | (simp only [List.length_take, List.length_drop]; omega))⟩
  refine Sz (dT h70) (Sz (dT h70) (fw (.bool true) (Yl.pickT rfl (dT h70) rfl) (Mz rfl (Sz rfl (Sz rfl (Sz rfl (Sz rfl (Sz rfl (Sz rfl (Sz rfl (fw (.bool true) (Yl.pickT rfl rfl rfl) (nt (jt (sr (Az rfl (An rfl (Wp.ret (Fin.thenR (Fin.res (res2 rfl rfl rfl) ?_)))))))))))))))))))
  have H84 : Own w D w62 [row none 0 0 (List.flatMap eB ([])) 5 1] := H64.free (row_nil 5 1)
  have H85 := H84.pick [0] (by decide) rfl
  have e : r05_Open l0 = ([], 11) := et (iN h21) (et (iN h24) (et (bnd_of hr35) (et (bnd_of hr46) (et (ip h51) (et (bnd_of hr61) (et (bnd_of (getD_of hx68)) (et (ip h69) (iN h70))))))))
  obtain ⟨rfl, rfl⟩ := pj2 (e.symm.trans hr)
  exact ⟨none, 0, rfl, H85, (by first | omega | exact Nat.zero_le _ | (simp only [List.length_take, List.length_drop]; omega))⟩
  refine Sz (dT h69) (Sz (dT h69) (fw (.bool true) (Yl.pickT rfl (dT h69) rfl) (Mz rfl (Sz rfl (Sz rfl (fw (.bool true) (Yl.pickT rfl rfl rfl) (Mz rfl (Sz rfl (Sz rfl (Sz rfl (Sz rfl (Sz rfl (Sz rfl (Sz rfl (fw (.bool true) (Yl.pickT rfl rfl rfl) (nt (jt (sr (Az rfl (An rfl (Wp.ret (Fin.thenR (Fin.res (res2 rfl rfl rfl) ?_)))))))))))))))))))))))
  have H86 : Own w D w62 [row none 0 0 (List.flatMap eB ([])) 5 1] := H64.free (row_nil 5 1)
  have H87 := H86.pick [0] (by decide) rfl
  have e : r05_Open l0 = ([], 11) := et (iN h21) (et (iN h24) (et (bnd_of hr35) (et (bnd_of hr46) (et (ip h51) (et (bnd_of hr61) (et (bnd_of (getD_of hx68)) (iN h69)))))))
  obtain ⟨rfl, rfl⟩ := pj2 (e.symm.trans hr)
  exact ⟨none, 0, rfl, H87, (by first | omega | exact Nat.zero_le _ | (simp only [List.length_take, List.length_drop]; omega))⟩
  refine jT (dT h51) (sr (Az rfl (An rfl (Wp.ret (Fin.thenR (Fin.res (res2 rfl rfl rfl) ?_))))))
  have H88 : Own w D w47 [row none 0 0 (List.flatMap eB ([])) 5 1] := H49.free (row_nil 5 1)
  have H89 := H88.pick [0] (by decide) rfl
  have e : r05_Open l0 = ([], 50) := et (iN h21) (et (iN h24) (et (bnd_of hr35) (et (bnd_of hr46) (iN h51))))
  obtain ⟨rfl, rfl⟩ := pj2 (e.symm.trans hr)
  exact ⟨none, 0, rfl, H89, (by first | omega | exact Nat.zero_le _ | (simp only [List.length_take, List.length_drop]; omega))⟩
def r18_R_Fail (p0 : RT) (p1 : Int) : RT :=
  if p0.xE = 0 then RT.mk (Ll.mk p0.xB.ls) p1 else p0
set_option maxRecDepth 100000 in
theorem r18_R_Fail_ok (w : World) (D : Nat → Prop) (g0 : Nat) (p0 : RT) (A0x0 : Option Addr) (c0x0 : Nat) (p1 : Int) (r0 : RT) (H : Own w D w [blk g0 [.slice A0x0 p0.xB.ls.length c0x0, .int .i64 p0.xE] 75]) (hx0x0 : Ro w D fun w' => Rds w' 1 A0x0 p0.xB.ls.length (List.flatMap eB p0.xB.ls)) (hb0x0 : p0.xB.ls.length ≤ c0x0 ∧ p0.xB.ls.length ≤ 9223372036854775807) (hr : r18_R_Fail p0 p1 = r0) :
    Calls Tryz.prog 46 #[.pointer (some ⟨g0, 0, none⟩), .int .i64 p1] w (Ret fun v w' => ∃ (B0ox0 : Option Addr) (b0ox0 : Nat), v = .tuple #[] ∧ Own w D w' [blk g0 [.slice B0ox0 r0.xB.ls.length b0ox0, .int .i64 r0.xE] 75] ∧ (SubS 1 A0x0 c0x0 p0.xB.ls B0ox0 b0ox0 r0.xB.ls)) := by
  refine Calls.body (args := [.pointer (some ⟨g0, 0, none⟩), .int .i64 p1]) Tryz.func46 rfl rfl rfl ?_
  show Wp _ _ _ [(0, .pointer (some ⟨g0, 0, none⟩)), (1, .int .i64 p1)] _ _
  refine sr (Mz rfl (Kz (.pointer (some ⟨g0, 0, none⟩)) (Kz (.pointer (some ⟨g0, 1, none⟩)) (Lz (.int .i64 p0.xE) H 0 Tryz.isAgg32 (Kz (.bool (decide (p0.xE = 0))) (nt ?_))))))
  by_cases h21 : p0.xE = 0
  refine jT (dT h21) (Wp.region (Mz rfl (Mz rfl (Kz (.pointer (some ⟨g0, 0, none⟩)) (Kz (.pointer (some ⟨g0, 1, none⟩)) ?_)))))
  refine sto [.int .i64 p1] 1 H Tryz.sizeOf32 ?_
  intro w22 H23
  refine WL.nil (Fin.res0 (res0 rfl) ?_)
  have H24 := H23.pick [0] (by decide) rfl
  have e : r18_R_Fail p0 p1 = RT.mk (Ll.mk p0.xB.ls) p1 := ip h21
  obtain rfl := e.symm.trans hr
  exact ⟨A0x0, c0x0, rfl, H24, (SubS.refl (by omega))⟩
  refine jF (dF h21) (Wp.skip (Fin.res0 (res0 rfl) ?_))
  have H25 : Own w D w [blk g0 [.slice A0x0 p0.xB.ls.length c0x0, .int .i64 p0.xE] 75] := H.pick [0] (by decide) rfl
  have e : r18_R_Fail p0 p1 = p0 := iN h21
  obtain rfl := e.symm.trans hr
  exact ⟨A0x0, c0x0, rfl, H25, (SubS.refl (by omega))⟩
def r18_R_Byte (p0 : RT) : Int × RT :=
  if p0.xE = 0 then if ((p0.xB.ls.length : Nat) : Int) = 0 then bnd (r18_R_Fail p0 10) fun yr28 => (0, yr28) else bnd (List.getD p0.xB.ls 0 default) fun yx38 => (((yx38.toNat : Nat) : Int), RT.mk (Ll.mk (List.drop 1 p0.xB.ls)) p0.xE) else (0, p0)
set_option maxRecDepth 100000 in
theorem r18_R_Byte_ok (w : World) (D : Nat → Prop) (g0 : Nat) (p0 : RT) (A0x0 : Option Addr) (c0x0 : Nat) (r0 : Int) (r1 : RT) (H : Own w D w [blk g0 [.slice A0x0 p0.xB.ls.length c0x0, .int .i64 p0.xE] 75]) (hx0x0 : Ro w D fun w' => Rds w' 1 A0x0 p0.xB.ls.length (List.flatMap eB p0.xB.ls)) (hb0x0 : p0.xB.ls.length ≤ c0x0 ∧ p0.xB.ls.length ≤ 9223372036854775807) (hr : r18_R_Byte p0 = (r0, r1)) :
    Calls Tryz.prog 90 #[.pointer (some ⟨g0, 0, none⟩)] w (Ret fun v w' => ∃ (B1ox0 : Option Addr) (b1ox0 : Nat), v = .int .i64 r0 ∧ Own w D w' [blk g0 [.slice B1ox0 r1.xB.ls.length b1ox0, .int .i64 r1.xE] 75] ∧ (SubS 1 A0x0 c0x0 p0.xB.ls B1ox0 b1ox0 r1.xB.ls) ∧ (0 ≤ r0 ∧ r0 ≤ 255)) := by
  refine Calls.body (args := [.pointer (some ⟨g0, 0, none⟩)]) Tryz.func90 rfl rfl rfl ?_
  show Wp _ _ _ [(0, .pointer (some ⟨g0, 0, none⟩))] _ _
  refine sr (An rfl (Wp.seq (sr (Mz rfl (Kz (.pointer (some ⟨g0, 0, none⟩)) (Kz (.pointer (some ⟨g0, 1, none⟩)) (Lz (.int .i64 p0.xE) H 0 Tryz.isAgg32 (fw (.bool (decide (¬ (p0.xE = 0)))) (Yl.bool (e := !(decide (p0.xE = 0))) yk decide_not.symm) (nt ?_)))))))))
  by_cases h21 : p0.xE = 0
  refine jF (dF (not_not_intro h21)) (Wp.skip (Fin.then (Wp.seq (sr (Mz rfl (Kz (.pointer (some ⟨g0, 0, none⟩)) (Kz (.pointer (some ⟨g0, 0, none⟩)) (Lz (.slice A0x0 p0.xB.ls.length c0x0) H 0 Tryz.isAgg31 (Kz (.int .i64 ((p0.xB.ls.length : Nat) : Int)) (Kz (.bool (decide (((p0.xB.ls.length : Nat) : Int) = 0))) (nt ?_)))))))))))
  by_cases h22 : ((p0.xB.ls.length : Nat) : Int) = 0
  refine jT (dT h22) (sr (Mz rfl ?_))
  obtain ⟨r28, hr29⟩ : ∃ q, r18_R_Fail p0 10 = q := ⟨_, rfl⟩
  obtain ⟨D23, HP24, ro25, bk26, rr27⟩ := Own.enter1 H
  refine cl Tryz.call46 (r18_R_Fail_ok _ _ g0 p0 A0x0 c0x0 10 r28 HP24 (ro25 _ hx0x0) (show p0.xB.ls.length ≤ c0x0 ∧ p0.xB.ls.length ≤ 9223372036854775807 from by omega) hr29) ?_
  rintro _ w30 ⟨A33, c34, rfl, HQ31, hs35⟩
  have H32 := bk26 _ _ HQ31
  replace hs35 : SubS 1 A0x0 c0x0 p0.xB.ls A33 c34 r28.xB.ls := hs35
  have hz36 := (hs35).le
  refine ns (An rfl (Wp.ret (Fin.thenR (rs ?_))))
  have H37 := H32.pick [0] (by decide) rfl
  have e : r18_R_Byte p0 = (0, r28) := et (ip h21) (et (ip h22) (bnd_of hr29))
  obtain ⟨rfl, rfl⟩ := pj2 (e.symm.trans hr)
  exact ⟨A33, c34, rfl, H37, hs35, (by omega)⟩
  refine jF (dF h22) (Wp.skip (Fin.then (sr (Mz rfl (Kz (.pointer (some ⟨g0, 0, none⟩)) (Kz (.pointer (some ⟨g0, 0, none⟩)) (Lz (.slice A0x0 p0.xB.ls.length c0x0) H 0 Tryz.isAgg31 ?_)))))))
  obtain ⟨x38, hx39⟩ := rds_at (ls := p0.xB.ls) (i := 0) eB_len (by decide) (H.ro hx0x0) (by first | omega | (simp; done) | (simp; omega))
  refine fw (.pointer (some ⟨ab A0x0, ao A0x0 + 0 * 1, none⟩)) (Yl.indexAddr (El31) rfl rfl ((H.ro hx0x0).addr (i := 0) (by omega)) (by omega)) (fw (.int .u8 ((x38.toNat : Nat) : Int)) (Yl.load rfl (Lds.one Tryz.isAgg5 (((H.ro hx0x0).elem eB_len hx39 (by decide)).at_ (k := 0) rfl))) (Ar rfl (Mz rfl (Mz rfl (Kz (.pointer (some ⟨g0, 0, none⟩)) (Kz (.pointer (some ⟨g0, 0, none⟩)) (Lz (.slice A0x0 p0.xB.ls.length c0x0) H 0 Tryz.isAgg31 (fw (.slice (cutA A0x0 1 1 c0x0) (p0.xB.ls.length - 1) (c0x0 - 1)) (Yl.cutFrom (El31) rfl rfl (by omega)) (Kz (.pointer (some ⟨g0, 0, none⟩)) (Kz (.pointer (some ⟨g0, 0, none⟩)) ?_))))))))))
  refine sto [.slice (cutA A0x0 1 1 c0x0) (p0.xB.ls.length - 1) (c0x0 - 1)] 0 H Tryz.sizeOf31 ?_
  intro w40 H41
  refine ns (Mz rfl ?_)
  have hz42 : x38.toNat ≤ 255 := Nat.le_of_lt_succ (UInt8.toNat_lt _)
  refine fw (.int .i64 ((x38.toNat : Nat) : Int)) (Yl.int (e := IntKind.i64.wrap ((x38.toNat : Nat) : Int)) yk (IntWalk.i64_in _ (by omega))) (An rfl (Wp.ret (rs ?_)))
  have hn43 : p0.xB.ls.length - 1 = List.length (List.drop 1 p0.xB.ls) := by first | omega | (simp only [List.length_drop, List.length_take] <;> omega)
  have H44 : Own w D w40 [blk g0 [.slice (cutA A0x0 1 1 c0x0) (List.length (List.drop 1 p0.xB.ls)) (c0x0 - 1), .int .i64 p0.xE] 75] := by rw [← hn43]; exact H41
  have H45 := H44.pick [0] (by decide) rfl
  have e : r18_R_Byte p0 = (((x38.toNat : Nat) : Int), RT.mk (Ll.mk (List.drop 1 p0.xB.ls)) p0.xE) := et (ip h21) (et (iN h22) (bnd_of (getD_of hx39)))
  obtain ⟨rfl, rfl⟩ := pj2 (e.symm.trans hr)
  exact ⟨cutA A0x0 1 1 c0x0, c0x0 - 1, (by first | rfl | (rw [← hn43]; done) | (rw [← hn43]; rfl)), H45, (SubS.cut (SubS.refl (by omega)) (by first | omega | (simp only [List.length_drop]; omega))), (by omega)⟩
  refine jT (dT h21) (sr (An rfl (Wp.ret (Fin.thenR (rs ?_)))))
  have H46 : Own w D w [blk g0 [.slice A0x0 p0.xB.ls.length c0x0, .int .i64 p0.xE] 75] := H.pick [0] (by decide) rfl
  have e : r18_R_Byte p0 = (0, p0) := iN h21
  obtain ⟨rfl, rfl⟩ := pj2 (e.symm.trans hr)
  exact ⟨A0x0, c0x0, rfl, H46, (SubS.refl (by omega)), (by omega)⟩
def r18_R_Num (p0 : RT) : Nat × RT :=
  if p0.xE = 0 then bnd (r01_ReadNum p0.xB.ls) fun yr27 => if yr27.2.2 = 0 then (yr27.1, RT.mk (Ll.mk (List.drop (Int.toNat yr27.2.1) p0.xB.ls)) p0.xE) else bnd (r18_R_Fail p0 yr27.2.2) fun yr47 => (0, yr47) else (0, p0)
set_option maxRecDepth 100000 in
theorem r18_R_Num_ok (w : World) (D : Nat → Prop) (g0 : Nat) (p0 : RT) (A0x0 : Option Addr) (c0x0 : Nat) (r0 : Nat) (r1 : RT) (H : Own w D w [blk g0 [.slice A0x0 p0.xB.ls.length c0x0, .int .i64 p0.xE] 75]) (hx0x0 : Ro w D fun w' => Rds w' 1 A0x0 p0.xB.ls.length (List.flatMap eB p0.xB.ls)) (hb0x0 : p0.xB.ls.length ≤ c0x0 ∧ p0.xB.ls.length ≤ 9223372036854775807) (hr : r18_R_Num p0 = (r0, r1)) :
    Calls Tryz.prog 96 #[.pointer (some ⟨g0, 0, none⟩)] w (Ret fun v w' => ∃ (B1ox0 : Option Addr) (b1ox0 : Nat), v = .int .u64 ((r0 : Nat) : Int) ∧ Own w D w' [blk g0 [.slice B1ox0 r1.xB.ls.length b1ox0, .int .i64 r1.xE] 75] ∧ (SubS 1 A0x0 c0x0 p0.xB.ls B1ox0 b1ox0 r1.xB.ls) ∧ (r0 ≤ 18446744073709551615)) := by
  refine Calls.body (args := [.pointer (some ⟨g0, 0, none⟩)]) Tryz.func96 rfl rfl rfl ?_
  show Wp _ _ _ [(0, .pointer (some ⟨g0, 0, none⟩))] _ _
  refine sr (An rfl (Wp.seq (sr (Mz rfl (Kz (.pointer (some ⟨g0, 0, none⟩)) (Kz (.pointer (some ⟨g0, 1, none⟩)) (Lz (.int .i64 p0.xE) H 0 Tryz.isAgg32 (fw (.bool (decide (¬ (p0.xE = 0)))) (Yl.bool (e := !(decide (p0.xE = 0))) yk decide_not.symm) (nt ?_)))))))))
  by_cases h21 : p0.xE = 0
  refine jF (dF (not_not_intro h21)) (Wp.skip (Fin.then (sr (Mz rfl (Kz (.pointer (some ⟨g0, 0, none⟩)) (Kz (.pointer (some ⟨g0, 0, none⟩)) (Lz (.slice A0x0 p0.xB.ls.length c0x0) H 0 Tryz.isAgg31 ?_)))))))
  obtain ⟨⟨r27, r28, r29⟩, hr30⟩ : ∃ q : Nat × Int × Int, r01_ReadNum p0.xB.ls = q := ⟨_, rfl⟩
  obtain ⟨D22, HP23, ro24, bk25, rr26⟩ := Own.enter0 H
  refine cl Tryz.call89 (r01_ReadNum_ok _ _ A0x0 p0.xB.ls.length c0x0 p0.xB.ls r27 r28 r29 HP23 (ro24 _ hx0x0) rfl (by omega) (by first | omega | (simp only [List.length_take, List.length_drop]; omega) | exact Nat.le_refl _) hr30) ?_
  rintro _ w31 ⟨rfl, HQ32, hk34, hk35⟩
  have H33 := bk25 _ _ HQ32
  replace hk34 : ¬ (r29 = 0) ∨ (1 ≤ r28 ∧ r28 ≤ 10 ∧ r28 ≤ ((p0.xB.ls.length : Nat) : Int)) := hk34
  replace hk35 : r27 ≤ 18446744073709551615 := hk35
  refine Mz rfl (Kz (.int .u64 ((r27 : Nat) : Int)) (Kz (.int .i64 r28) (Kz (.int .i64 r29) (Az rfl (Az rfl (An rfl (Wp.seq (sr (Mz rfl (fw (.bool (decide (¬ (r29 = 0)))) (Yl.bool (e := !(decide (r29 = 0))) yk decide_not.symm) (nt ?_)))))))))))
  by_cases h36 : r29 = 0
  refine jF (dF (not_not_intro h36)) (Wp.skip (Fin.then (sr (Mz rfl (Mz rfl (Kz (.pointer (some ⟨g0, 0, none⟩)) (Kz (.pointer (some ⟨g0, 0, none⟩)) (Lz (.slice A0x0 p0.xB.ls.length c0x0) H33 0 Tryz.isAgg31 (fw (.int .i64 ((Int.toNat r28 : Nat) : Int)) (Yl.int (e := r28) (Yl.move rfl) (by omega)) (fw (.slice (cutA A0x0 (Int.toNat r28) 1 c0x0) (p0.xB.ls.length - (Int.toNat r28)) (c0x0 - (Int.toNat r28))) (Yl.cutFrom (El31) rfl rfl (by omega)) (Kz (.pointer (some ⟨g0, 0, none⟩)) (Kz (.pointer (some ⟨g0, 0, none⟩)) ?_))))))))))))
  refine sto [.slice (cutA A0x0 (Int.toNat r28) 1 c0x0) (p0.xB.ls.length - (Int.toNat r28)) (c0x0 - (Int.toNat r28))] 0 H33 Tryz.sizeOf31 ?_
  intro w37 H38
  refine ns (Mz rfl (An rfl (Wp.ret (rs ?_))))
  have hn39 : p0.xB.ls.length - (Int.toNat r28) = List.length (List.drop (Int.toNat r28) p0.xB.ls) := by first | omega | (simp only [List.length_drop, List.length_take] <;> omega)
  have H40 : Own w D w37 [blk g0 [.slice (cutA A0x0 (Int.toNat r28) 1 c0x0) (List.length (List.drop (Int.toNat r28) p0.xB.ls)) (c0x0 - (Int.toNat r28)), .int .i64 p0.xE] 75] := by rw [← hn39]; exact H38
  have H41 := H40.pick [0] (by decide) rfl
  have e : r18_R_Num p0 = (r27, RT.mk (Ll.mk (List.drop (Int.toNat r28) p0.xB.ls)) p0.xE) := et (ip h21) (et (bnd_of hr30) (ip h36))
  obtain ⟨rfl, rfl⟩ := pj2 (e.symm.trans hr)
  exact ⟨cutA A0x0 (Int.toNat r28) 1 c0x0, c0x0 - (Int.toNat r28), (by first | rfl | (rw [← hn39]; done) | (rw [← hn39]; rfl)), H41, (SubS.cut (SubS.refl (by omega)) (by first | omega | (simp only [List.length_drop]; omega))), (by omega)⟩
  refine jT (dT h36) (sr (Mz rfl (Mz rfl ?_)))
  obtain ⟨r47, hr48⟩ : ∃ q, r18_R_Fail p0 r29 = q := ⟨_, rfl⟩
  obtain ⟨D42, HP43, ro44, bk45, rr46⟩ := Own.enter1 H33
  refine cl Tryz.call46 (r18_R_Fail_ok _ _ g0 p0 A0x0 c0x0 r29 r47 HP43 (ro44 _ hx0x0) (show p0.xB.ls.length ≤ c0x0 ∧ p0.xB.ls.length ≤ 9223372036854775807 from by omega) hr48) ?_
  rintro _ w49 ⟨A52, c53, rfl, HQ50, hs54⟩
  have H51 := bk45 _ _ HQ50
  replace hs54 : SubS 1 A0x0 c0x0 p0.xB.ls A52 c53 r47.xB.ls := hs54
  have hz55 := (hs54).le
  refine ns (An rfl (Wp.ret (Fin.thenR (rs ?_))))
  have H56 := H51.pick [0] (by decide) rfl
  have e : r18_R_Num p0 = (0, r47) := et (ip h21) (et (bnd_of hr30) (et (iN h36) (bnd_of hr48)))
  obtain ⟨rfl, rfl⟩ := pj2 (e.symm.trans hr)
  exact ⟨A52, c53, rfl, H56, hs54, (by omega)⟩
  refine jT (dT h21) (sr (An rfl (Wp.ret (Fin.thenR (rs ?_)))))
  have H57 : Own w D w [blk g0 [.slice A0x0 p0.xB.ls.length c0x0, .int .i64 p0.xE] 75] := H.pick [0] (by decide) rfl
  have e : r18_R_Num p0 = (0, p0) := iN h21
  obtain ⟨rfl, rfl⟩ := pj2 (e.symm.trans hr)
  exact ⟨A0x0, c0x0, rfl, H57, (SubS.refl (by omega)), (by omega)⟩
def r18_R_Many (p0 : RT) : Int × RT :=
  bnd (r18_R_Num p0) fun yr26 => if ((yr26.1 : Nat) : Int) > 255 then bnd (r18_R_Fail yr26.2 11) fun yr43 => (0, yr43) else (((yr26.1 : Nat) : Int), yr26.2)
set_option maxRecDepth 100000 in
theorem r18_R_Many_ok (w : World) (D : Nat → Prop) (g0 : Nat) (p0 : RT) (A0x0 : Option Addr) (c0x0 : Nat) (r0 : Int) (r1 : RT) (H : Own w D w [blk g0 [.slice A0x0 p0.xB.ls.length c0x0, .int .i64 p0.xE] 75]) (hx0x0 : Ro w D fun w' => Rds w' 1 A0x0 p0.xB.ls.length (List.flatMap eB p0.xB.ls)) (hb0x0 : p0.xB.ls.length ≤ c0x0 ∧ p0.xB.ls.length ≤ 9223372036854775807) (hr : r18_R_Many p0 = (r0, r1)) :
    Calls Tryz.prog 116 #[.pointer (some ⟨g0, 0, none⟩)] w (Ret fun v w' => ∃ (B1ox0 : Option Addr) (b1ox0 : Nat), v = .int .i64 r0 ∧ Own w D w' [blk g0 [.slice B1ox0 r1.xB.ls.length b1ox0, .int .i64 r1.xE] 75] ∧ (SubS 1 A0x0 c0x0 p0.xB.ls B1ox0 b1ox0 r1.xB.ls) ∧ (0 ≤ r0 ∧ r0 ≤ 255)) := by
  refine Calls.body (args := [.pointer (some ⟨g0, 0, none⟩)]) Tryz.func116 rfl rfl rfl ?_
  show Wp _ _ _ [(0, .pointer (some ⟨g0, 0, none⟩))] _ _
  refine sr (Ar rfl (Mz rfl ?_))
  obtain ⟨⟨r26, r27⟩, hr28⟩ : ∃ q : Nat × RT, r18_R_Num p0 = q := ⟨_, rfl⟩
  obtain ⟨D21, HP22, ro23, bk24, rr25⟩ := Own.enter1 H
  refine cl Tryz.call96 (r18_R_Num_ok _ _ g0 p0 A0x0 c0x0 r26 r27 HP22 (ro23 _ hx0x0) (show p0.xB.ls.length ≤ c0x0 ∧ p0.xB.ls.length ≤ 9223372036854775807 from by omega) hr28) ?_
  rintro _ w29 ⟨A32, c33, rfl, HQ30, hs34, hk35⟩
  have H31 := bk24 _ _ HQ30
  replace hs34 : SubS 1 A0x0 c0x0 p0.xB.ls A32 c33 r27.xB.ls := hs34
  have hz36 := (hs34).le
  replace hk35 : r26 ≤ 18446744073709551615 := hk35
  refine An rfl (Wp.seq (sr (Mz rfl (Kz (.bool (decide (((r26 : Nat) : Int) > 255))) (nt ?_)))))
  by_cases h37 : ((r26 : Nat) : Int) > 255
  refine jT (dT h37) (sr (Mz rfl ?_))
  obtain ⟨r43, hr44⟩ : ∃ q, r18_R_Fail r27 11 = q := ⟨_, rfl⟩
  obtain ⟨D38, HP39, ro40, bk41, rr42⟩ := Own.enter1 H31
  refine cl Tryz.call46 (r18_R_Fail_ok _ _ g0 r27 A32 c33 11 r43 HP39 (fun w9 h9 => SubS.rds eB_len (by decide) hs34 ((ro40 _ hx0x0) w9 h9)) (show r27.xB.ls.length ≤ c33 ∧ r27.xB.ls.length ≤ 9223372036854775807 from by omega) hr44) ?_
  rintro _ w45 ⟨A48, c49, rfl, HQ46, hs50⟩
  have H47 := bk41 _ _ HQ46
  replace hs50 : SubS 1 A32 c33 r27.xB.ls A48 c49 r43.xB.ls := hs50
  have hz51 := (hs50).le
  refine ns (An rfl (Wp.ret (Fin.thenR (rs ?_))))
  have H52 := H47.pick [0] (by decide) rfl
  have e : r18_R_Many p0 = (0, r43) := et (bnd_of hr28) (et (ip h37) (bnd_of hr44))
  obtain ⟨rfl, rfl⟩ := pj2 (e.symm.trans hr)
  exact ⟨A48, c49, rfl, H52, (SubS.trans hs34 hs50), (by omega)⟩
  refine jF (dF h37) (Wp.skip (Fin.then (sr (Mz rfl (fw (.int .i64 ((r26 : Nat) : Int)) (Yl.int (e := IntKind.i64.wrap ((r26 : Nat) : Int)) yk (IntWalk.i64_in _ (by omega))) (An rfl (Wp.ret (rs ?_))))))))
  have H53 := H31.pick [0] (by decide) rfl
  have e : r18_R_Many p0 = (((r26 : Nat) : Int), r27) := et (bnd_of hr28) (iN h37)
  obtain ⟨rfl, rfl⟩ := pj2 (e.symm.trans hr)
  exact ⟨A32, c33, rfl, H53, hs34, (by omega)⟩
def r18_R_Text (p0 : RT) : (List UInt8) × RT :=
  if p0.xE = 0 then bnd (r01_ReadText p0.xB.ls 255) fun yr27 => if yr27.2.2 = 2 then bnd (r18_R_Fail p0 11) fun yr41 => ([], yr41) else if yr27.2.2 = 0 then (yr27.1, RT.mk (Ll.mk (List.drop (Int.toNat yr27.2.1) p0.xB.ls)) p0.xE) else bnd (r18_R_Fail p0 yr27.2.2) fun yr62 => ([], yr62) else ([], p0)
set_option maxRecDepth 100000 in
theorem r18_R_Text_ok (w : World) (D : Nat → Prop) (g0 : Nat) (p0 : RT) (A0x0 : Option Addr) (c0x0 : Nat) (r0 : List UInt8) (r1 : RT) (H : Own w D w [blk g0 [.slice A0x0 p0.xB.ls.length c0x0, .int .i64 p0.xE] 75]) (hx0x0 : Ro w D fun w' => Rds w' 1 A0x0 p0.xB.ls.length (List.flatMap eB p0.xB.ls)) (hb0x0 : p0.xB.ls.length ≤ c0x0 ∧ p0.xB.ls.length ≤ 9223372036854775807) (hr : r18_R_Text p0 = (r0, r1)) :
    Calls Tryz.prog 92 #[.pointer (some ⟨g0, 0, none⟩)] w (Ret fun v w' => ∃ (B1ox0 : Option Addr) (b1ox0 : Nat), v = .string ⟨List.toArray r0⟩ ∧ Own w D w' [blk g0 [.slice B1ox0 r1.xB.ls.length b1ox0, .int .i64 r1.xE] 75] ∧ (SubS 1 A0x0 c0x0 p0.xB.ls B1ox0 b1ox0 r1.xB.ls)) := by
  refine Calls.body (args := [.pointer (some ⟨g0, 0, none⟩)]) Tryz.func92 rfl rfl rfl ?_
  show Wp _ _ _ [(0, .pointer (some ⟨g0, 0, none⟩))] _ _
  refine sr (An rfl (Wp.seq (sr (Mz rfl (Kz (.pointer (some ⟨g0, 0, none⟩)) (Kz (.pointer (some ⟨g0, 1, none⟩)) (Lz (.int .i64 p0.xE) H 0 Tryz.isAgg32 (fw (.bool (decide (¬ (p0.xE = 0)))) (Yl.bool (e := !(decide (p0.xE = 0))) yk decide_not.symm) (nt ?_)))))))))
  by_cases h21 : p0.xE = 0
  refine jF (dF (not_not_intro h21)) (Wp.skip (Fin.then (sr (Mz rfl (Kz (.pointer (some ⟨g0, 0, none⟩)) (Kz (.pointer (some ⟨g0, 0, none⟩)) (Lz (.slice A0x0 p0.xB.ls.length c0x0) H 0 Tryz.isAgg31 ?_)))))))
  obtain ⟨⟨r27, r28, r29⟩, hr30⟩ : ∃ q : (List UInt8) × Int × Int, r01_ReadText p0.xB.ls 255 = q := ⟨_, rfl⟩
  obtain ⟨D22, HP23, ro24, bk25, rr26⟩ := Own.enter0 H
  refine cl Tryz.call115 (r01_ReadText_ok _ _ A0x0 p0.xB.ls.length c0x0 p0.xB.ls 255 r27 r28 r29 HP23 (ro24 _ hx0x0) rfl (by omega) (by first | omega | (simp only [List.length_take, List.length_drop]; omega) | exact Nat.le_refl _) hr30) ?_
  rintro _ w31 ⟨rfl, HQ32, hk34⟩
  have H33 := bk25 _ _ HQ32
  replace hk34 : ¬ (r29 = 0) ∨ (1 ≤ r28 ∧ r28 ≤ ((p0.xB.ls.length : Nat) : Int) ∧ r27.length ≤ p0.xB.ls.length) := hk34
  refine Mz rfl (Kz (.string ⟨List.toArray r27⟩) (Kz (.int .i64 r28) (Kz (.int .i64 r29) (Az rfl (Az rfl (An rfl (Wp.seq (sr (Mz rfl (Kz (.bool (decide (r29 = 2))) (nt ?_)))))))))))
  by_cases h35 : r29 = 2
  refine jT (dT h35) (Wp.region (An rfl (Wp.seq (sr (Mz rfl (Kz (.bool true) (nt (jt (sr (Mz rfl (Mz rfl ?_)))))))))))
  obtain ⟨r41, hr42⟩ : ∃ q, r18_R_Fail p0 11 = q := ⟨_, rfl⟩
  obtain ⟨D36, HP37, ro38, bk39, rr40⟩ := Own.enter1 H33
  refine cl Tryz.call46 (r18_R_Fail_ok _ _ g0 p0 A0x0 c0x0 11 r41 HP37 (ro38 _ hx0x0) (show p0.xB.ls.length ≤ c0x0 ∧ p0.xB.ls.length ≤ 9223372036854775807 from by omega) hr42) ?_
  rintro _ w43 ⟨A46, c47, rfl, HQ44, hs48⟩
  have H45 := bk39 _ _ HQ44
  replace hs48 : SubS 1 A0x0 c0x0 p0.xB.ls A46 c47 r41.xB.ls := hs48
  have hz49 := (hs48).le
  refine ns (An rfl (Wp.ret (Fin.thenR (rs ?_))))
  have H50 := H45.pick [0] (by decide) rfl
  have e : r18_R_Text p0 = ([], r41) := et (ip h21) (et (bnd_of hr30) (et (ip h35) (bnd_of hr42)))
  obtain ⟨rfl, rfl⟩ := pj2 (e.symm.trans hr)
  exact ⟨A46, c47, rfl, H50, hs48⟩
  refine jF (dF h35) (Wp.skip (Fin.then (Wp.seq (sr (Mz rfl (fw (.bool (decide (¬ (r29 = 0)))) (Yl.bool (e := !(decide (r29 = 0))) yk decide_not.symm) (nt ?_)))))))
  by_cases h51 : r29 = 0
  refine jF (dF (not_not_intro h51)) (Wp.skip (Fin.then (sr (Mz rfl (Mz rfl (Kz (.pointer (some ⟨g0, 0, none⟩)) (Kz (.pointer (some ⟨g0, 0, none⟩)) (Lz (.slice A0x0 p0.xB.ls.length c0x0) H33 0 Tryz.isAgg31 (fw (.int .i64 ((Int.toNat r28 : Nat) : Int)) (Yl.int (e := r28) (Yl.move rfl) (by omega)) (fw (.slice (cutA A0x0 (Int.toNat r28) 1 c0x0) (p0.xB.ls.length - (Int.toNat r28)) (c0x0 - (Int.toNat r28))) (Yl.cutFrom (El31) rfl rfl (by omega)) (Kz (.pointer (some ⟨g0, 0, none⟩)) (Kz (.pointer (some ⟨g0, 0, none⟩)) ?_))))))))))))
  refine sto [.slice (cutA A0x0 (Int.toNat r28) 1 c0x0) (p0.xB.ls.length - (Int.toNat r28)) (c0x0 - (Int.toNat r28))] 0 H33 Tryz.sizeOf31 ?_
  intro w52 H53
  refine ns (Mz rfl (An rfl (Wp.ret (rs ?_))))
  have hn54 : p0.xB.ls.length - (Int.toNat r28) = List.length (List.drop (Int.toNat r28) p0.xB.ls) := by first | omega | (simp only [List.length_drop, List.length_take] <;> omega)
  have H55 : Own w D w52 [blk g0 [.slice (cutA A0x0 (Int.toNat r28) 1 c0x0) (List.length (List.drop (Int.toNat r28) p0.xB.ls)) (c0x0 - (Int.toNat r28)), .int .i64 p0.xE] 75] := by rw [← hn54]; exact H53
  have H56 := H55.pick [0] (by decide) rfl
  have e : r18_R_Text p0 = (r27, RT.mk (Ll.mk (List.drop (Int.toNat r28) p0.xB.ls)) p0.xE) := et (ip h21) (et (bnd_of hr30) (et (iN h35) (ip h51)))
  obtain ⟨rfl, rfl⟩ := pj2 (e.symm.trans hr)
  exact ⟨cutA A0x0 (Int.toNat r28) 1 c0x0, c0x0 - (Int.toNat r28), (by first | rfl | (rw [← hn54]; done) | (rw [← hn54]; rfl)), H56, (SubS.cut (SubS.refl (by omega)) (by first | omega | (simp only [List.length_drop]; omega)))⟩
  refine jT (dT h51) (sr (Mz rfl (Mz rfl ?_)))
  obtain ⟨r62, hr63⟩ : ∃ q, r18_R_Fail p0 r29 = q := ⟨_, rfl⟩
  obtain ⟨D57, HP58, ro59, bk60, rr61⟩ := Own.enter1 H33
  refine cl Tryz.call46 (r18_R_Fail_ok _ _ g0 p0 A0x0 c0x0 r29 r62 HP58 (ro59 _ hx0x0) (show p0.xB.ls.length ≤ c0x0 ∧ p0.xB.ls.length ≤ 9223372036854775807 from by omega) hr63) ?_
  rintro _ w64 ⟨A67, c68, rfl, HQ65, hs69⟩
  have H66 := bk60 _ _ HQ65
  replace hs69 : SubS 1 A0x0 c0x0 p0.xB.ls A67 c68 r62.xB.ls := hs69
  have hz70 := (hs69).le
  refine ns (An rfl (Wp.ret (Fin.thenR (rs ?_))))
  have H71 := H66.pick [0] (by decide) rfl
  have e : r18_R_Text p0 = ([], r62) := et (ip h21) (et (bnd_of hr30) (et (iN h35) (et (iN h51) (bnd_of hr63))))
  obtain ⟨rfl, rfl⟩ := pj2 (e.symm.trans hr)
  exact ⟨A67, c68, rfl, H71, hs69⟩
  refine jT (dT h21) (sr (An rfl (Wp.ret (Fin.thenR (rs ?_)))))
  have H72 : Own w D w [blk g0 [.slice A0x0 p0.xB.ls.length c0x0, .int .i64 p0.xE] 75] := H.pick [0] (by decide) rfl
  have e : r18_R_Text p0 = ([], p0) := iN h21
  obtain ⟨rfl, rfl⟩ := pj2 (e.symm.trans hr)
  exact ⟨A0x0, c0x0, rfl, H72, (SubS.refl (by omega))⟩
def r18_R_Flag (p0 : RT) : Bool × RT :=
  bnd (r18_R_Byte p0) fun yr26 => if yr26.1 > 1 then bnd (r18_R_Fail yr26.2 11) fun yr43 => (decide (yr26.1 = 1), yr43) else (decide (yr26.1 = 1), yr26.2)
set_option maxRecDepth 100000 in
theorem r18_R_Flag_ok (w : World) (D : Nat → Prop) (g0 : Nat) (p0 : RT) (A0x0 : Option Addr) (c0x0 : Nat) (r0 : Bool) (r1 : RT) (H : Own w D w [blk g0 [.slice A0x0 p0.xB.ls.length c0x0, .int .i64 p0.xE] 75]) (hx0x0 : Ro w D fun w' => Rds w' 1 A0x0 p0.xB.ls.length (List.flatMap eB p0.xB.ls)) (hb0x0 : p0.xB.ls.length ≤ c0x0 ∧ p0.xB.ls.length ≤ 9223372036854775807) (hr : r18_R_Flag p0 = (r0, r1)) :
    Calls Tryz.prog 91 #[.pointer (some ⟨g0, 0, none⟩)] w (Ret fun v w' => ∃ (B1ox0 : Option Addr) (b1ox0 : Nat), v = .bool r0 ∧ Own w D w' [blk g0 [.slice B1ox0 r1.xB.ls.length b1ox0, .int .i64 r1.xE] 75] ∧ (SubS 1 A0x0 c0x0 p0.xB.ls B1ox0 b1ox0 r1.xB.ls)) := by
  refine Calls.body (args := [.pointer (some ⟨g0, 0, none⟩)]) Tryz.func91 rfl rfl rfl ?_
  show Wp _ _ _ [(0, .pointer (some ⟨g0, 0, none⟩))] _ _
  refine sr (Ar rfl (Mz rfl ?_))
  obtain ⟨⟨r26, r27⟩, hr28⟩ : ∃ q : Int × RT, r18_R_Byte p0 = q := ⟨_, rfl⟩
  obtain ⟨D21, HP22, ro23, bk24, rr25⟩ := Own.enter1 H
  refine cl Tryz.call90 (r18_R_Byte_ok _ _ g0 p0 A0x0 c0x0 r26 r27 HP22 (ro23 _ hx0x0) (show p0.xB.ls.length ≤ c0x0 ∧ p0.xB.ls.length ≤ 9223372036854775807 from by omega) hr28) ?_
  rintro _ w29 ⟨A32, c33, rfl, HQ30, hs34, hk35⟩
  have H31 := bk24 _ _ HQ30
  replace hs34 : SubS 1 A0x0 c0x0 p0.xB.ls A32 c33 r27.xB.ls := hs34
  have hz36 := (hs34).le
  replace hk35 : 0 ≤ r26 ∧ r26 ≤ 255 := hk35
  refine An rfl (Wp.seq (sr (Mz rfl (Kz (.bool (decide (r26 > 1))) (nt ?_)))))
  by_cases h37 : r26 > 1
  refine jT (dT h37) (Wp.region (Mz rfl ?_))
  obtain ⟨r43, hr44⟩ : ∃ q, r18_R_Fail r27 11 = q := ⟨_, rfl⟩
  obtain ⟨D38, HP39, ro40, bk41, rr42⟩ := Own.enter1 H31
  refine cl Tryz.call46 (r18_R_Fail_ok _ _ g0 r27 A32 c33 11 r43 HP39 (fun w9 h9 => SubS.rds eB_len (by decide) hs34 ((ro40 _ hx0x0) w9 h9)) (show r27.xB.ls.length ≤ c33 ∧ r27.xB.ls.length ≤ 9223372036854775807 from by omega) hr44) ?_
  rintro _ w45 ⟨A48, c49, rfl, HQ46, hs50⟩
  have H47 := bk41 _ _ HQ46
  replace hs50 : SubS 1 A32 c33 r27.xB.ls A48 c49 r43.xB.ls := hs50
  have hz51 := (hs50).le
  refine ns (Mz rfl (Kz (.bool (decide (r26 = 1))) (An rfl (Wp.ret (rs ?_)))))
  have H52 := H47.pick [0] (by decide) rfl
  have e : r18_R_Flag p0 = (decide (r26 = 1), r43) := et (bnd_of hr28) (et (ip h37) (bnd_of hr44))
  obtain ⟨rfl, rfl⟩ := pj2 (e.symm.trans hr)
  exact ⟨A48, c49, rfl, H52, (SubS.trans hs34 hs50)⟩
  refine jF (dF h37) (Wp.skip (Fin.then (sr (Mz rfl (Kz (.bool (decide (r26 = 1))) (An rfl (Wp.ret (rs ?_))))))))
  have H53 := H31.pick [0] (by decide) rfl
  have e : r18_R_Flag p0 = (decide (r26 = 1), r27) := et (bnd_of hr28) (iN h37)
  obtain ⟨rfl, rfl⟩ := pj2 (e.symm.trans hr)
  exact ⟨A32, c33, rfl, H53, hs34⟩
def r18_R_Ops_L0 : Nat → List OpD → Int → List UInt8 → Int → (List OpD) × (List UInt8) × Int
  | 0, l50, z51, l54, z55 => default
  | q56 + 1, l50, z51, l54, z55 => if z51 > 0 then if z55 = 0 then bnd (r18_R_Byte (RT.mk (Ll.mk l54) z55)) fun yr86 => bnd (r18_R_Text yr86.2) fun yr106 => bnd (r18_R_Text yr106.2) fun yr125 => bnd (r18_R_Text yr125.2) fun yr144 => bnd (r18_R_Text yr144.2) fun yr163 => bnd (r18_R_Byte yr163.2) fun yr182 => r18_R_Ops_L0 q56 (l50 ++ [(OpD.mk yr86.1 yr106.1 yr125.1 yr144.1 yr163.1 yr182.1)]) (z51 - 1) yr182.2.xB.ls yr182.2.xE else (l50, l54, z55) else (l50, l54, z55)
def r18_R_Ops (p0 : RT) : (List OpD) × RT :=
  bnd (r18_R_Many p0) fun yr26 => bnd (bnd (r18_R_Ops_L0 ((Int.toNat yr26.1) + 1) ([]) yr26.1 yr26.2.xB.ls yr26.2.xE) fun sLrbJjL => (sLrbJjL.1, sLrbJjL.2.1, sLrbJjL.2.2)) fun sJrbJ => (sJrbJ.1, RT.mk (Ll.mk sJrbJ.2.1) sJrbJ.2.2)
set_option maxRecDepth 100000 in
set_option maxHeartbeats 1000000 in
theorem r18_R_Ops_ok (w : World) (D : Nat → Prop) (g0 : Nat) (p0 : RT) (A0x0 : Option Addr) (c0x0 : Nat) (r0 : List OpD) (r1 : RT) (H : Own w D w [blk g0 [.slice A0x0 p0.xB.ls.length c0x0, .int .i64 p0.xE] 75]) (hx0x0 : Ro w D fun w' => Rds w' 1 A0x0 p0.xB.ls.length (List.flatMap eB p0.xB.ls)) (hb0x0 : p0.xB.ls.length ≤ c0x0 ∧ p0.xB.ls.length ≤ 9223372036854775807) (hr : r18_R_Ops p0 = (r0, r1)) :
    Calls Tryz.prog 93 #[.pointer (some ⟨g0, 0, none⟩)] w (Ret fun v w' => ∃ (B0 : Option Addr) (b0 : Nat) (B1ox0 : Option Addr) (b1ox0 : Nat), v = .slice B0 r0.length b0 ∧ Own w D w' [row B0 r0.length b0 (List.flatMap OpD.cells r0) 64 6, blk g0 [.slice B1ox0 r1.xB.ls.length b1ox0, .int .i64 r1.xE] 75] ∧ (SubS 1 A0x0 c0x0 p0.xB.ls B1ox0 b1ox0 r1.xB.ls) ∧ (r0.length ≤ 1000)) := by
  refine Calls.body (args := [.pointer (some ⟨g0, 0, none⟩)]) Tryz.func93 rfl rfl rfl ?_
  show Wp _ _ _ [(0, .pointer (some ⟨g0, 0, none⟩))] _ _
  refine sr (Ar rfl (An rfl (Wp.seq (sr (Mz rfl ?_)))))
  obtain ⟨⟨r26, r27⟩, hr28⟩ : ∃ q : Int × RT, r18_R_Many p0 = q := ⟨_, rfl⟩
  obtain ⟨D21, HP22, ro23, bk24, rr25⟩ := Own.enter1 H
  refine cl Tryz.call116 (r18_R_Many_ok _ _ g0 p0 A0x0 c0x0 r26 r27 HP22 (ro23 _ hx0x0) (show p0.xB.ls.length ≤ c0x0 ∧ p0.xB.ls.length ≤ 9223372036854775807 from by omega) hr28) ?_
  rintro _ w29 ⟨A32, c33, rfl, HQ30, hs34, hk35⟩
  have H31 := bk24 _ _ HQ30
  replace hs34 : SubS 1 A0x0 c0x0 p0.xB.ls A32 c33 r27.xB.ls := hs34
  have hz36 := (hs34).le
  replace hk35 : 0 ≤ r26 ∧ r26 ≤ 255 := hk35
  refine An rfl ?_
  obtain ⟨I44, hI45⟩ : ∃ q : ((Option Addr) × Nat × (List OpD) × (Option Addr) × Nat × (List UInt8) × Int) → World → Prop, q = fun (i : (Option Addr) × Nat × (List OpD) × (Option Addr) × Nat × (List UInt8) × Int) w' => Own w D w' [blk g0 [.slice i.2.2.2.1 i.2.2.2.2.2.1.length i.2.2.2.2.1, .int .i64 i.2.2.2.2.2.2] 75, row i.1 i.2.2.1.length i.2.1 (List.flatMap OpD.cells i.2.2.1) 64 6] ∧ (SubS 1 A32 c33 r27.xB.ls i.2.2.2.1 i.2.2.2.2.1 i.2.2.2.2.2.1 ∧ 0 ≤ i.2.2.1.length ∧ i.2.2.2.2.2.1.length ≤ r27.xB.ls.length ∧ i.2.2.2.2.2.1.length ≤ r27.xB.ls.length + 1 ∧ i.2.2.1.length ≤ 1000 ∧ (bnd (r18_R_Ops_L0 ((Int.toNat r26) + 1) ([]) r26 r27.xB.ls r27.xE) fun sLrbJjL => (sLrbJjL.1, sLrbJjL.2.1, sLrbJjL.2.2)) = (i.2.2.1, i.2.2.2.2.2.1, i.2.2.2.2.2.2)) := ⟨_, rfl⟩
  have dm46 : ∀ {A37 : Option Addr} {c38 : Nat} {l39 : List OpD} {A40 : Option Addr} {c41 : Nat} {l42 : List UInt8} {z43 : Int} {w' : World}, I44 (A37, c38, l39, A40, c41, l42, z43) w' ↔ Own w D w' [blk g0 [.slice A40 l42.length c41, .int .i64 z43] 75, row A37 l39.length c38 (List.flatMap OpD.cells l39) 64 6] ∧ SubS 1 A32 c33 r27.xB.ls A40 c41 l42 ∧ 0 ≤ l39.length ∧ l42.length ≤ r27.xB.ls.length ∧ l42.length ≤ r27.xB.ls.length + 1 ∧ l39.length ≤ 1000 ∧ (bnd (r18_R_Ops_L0 ((Int.toNat r26) + 1) ([]) r26 r27.xB.ls r27.xE) fun sLrbJjL => (sLrbJjL.1, sLrbJjL.2.1, sLrbJjL.2.2)) = (l39, l42, z43) := by intros; subst hI45; exact Iff.rfl
  refine Wp.joinT (fun i : (Option Addr) × Nat × (List OpD) × (Option Addr) × Nat × (List UInt8) × Int => [(3, .slice i.1 i.2.2.1.length i.2.1), (2, .slice none 0 0)]) I44 ?_ ?_
  refine Wp.block ?_
  have H47 : Own w D w29 [row none 0 0 (List.flatMap OpD.cells ([])) 64 6, blk g0 [.slice A32 r27.xB.ls.length c33, .int .i64 r27.xE] 75] := H31.free (row_nil 64 6)
  have H58 := H47.pick [1, 0] (by decide) rfl
  obtain ⟨I62, hI63⟩ : ∃ q : ((Option Addr) × Nat × (List OpD) × Int × (Option Addr) × Nat × (List UInt8) × Int × Nat) → World → Prop, q = fun (i : (Option Addr) × Nat × (List OpD) × Int × (Option Addr) × Nat × (List UInt8) × Int × Nat) w' => Own w D w' [blk g0 [.slice i.2.2.2.2.1 i.2.2.2.2.2.2.1.length i.2.2.2.2.2.1, .int .i64 i.2.2.2.2.2.2.2.1] 75, row i.1 i.2.2.1.length i.2.1 (List.flatMap OpD.cells i.2.2.1) 64 6] ∧ (SubS 1 A32 c33 r27.xB.ls i.2.2.2.2.1 i.2.2.2.2.2.1 i.2.2.2.2.2.2.1 ∧ ((i.2.2.1.length : Nat) : Int) + i.2.2.2.1 ≤ 255 ∧ 0 ≤ i.2.2.2.1 ∧ Int.toNat i.2.2.2.1 < i.2.2.2.2.2.2.2.2 ∧ r18_R_Ops_L0 ((Int.toNat r26) + 1) ([]) r26 r27.xB.ls r27.xE = r18_R_Ops_L0 i.2.2.2.2.2.2.2.2 i.2.2.1 i.2.2.2.1 i.2.2.2.2.2.2.1 i.2.2.2.2.2.2.2.1) := ⟨_, rfl⟩
  have dm64 : ∀ {A48 : Option Addr} {c49 : Nat} {l50 : List OpD} {z51 : Int} {A52 : Option Addr} {c53 : Nat} {l54 : List UInt8} {z55 : Int} {f57 : Nat} {w' : World}, I62 (A48, c49, l50, z51, A52, c53, l54, z55, f57) w' ↔ Own w D w' [blk g0 [.slice A52 l54.length c53, .int .i64 z55] 75, row A48 l50.length c49 (List.flatMap OpD.cells l50) 64 6] ∧ SubS 1 A32 c33 r27.xB.ls A52 c53 l54 ∧ ((l50.length : Nat) : Int) + z51 ≤ 255 ∧ 0 ≤ z51 ∧ Int.toNat z51 < f57 ∧ r18_R_Ops_L0 ((Int.toNat r26) + 1) ([]) r26 r27.xB.ls r27.xE = r18_R_Ops_L0 f57 l50 z51 l54 z55 := by intros; subst hI63; exact Iff.rfl
  refine Wp.loop (fun i : (Option Addr) × Nat × (List OpD) × Int × (Option Addr) × Nat × (List UInt8) × Int × Nat => [(3, .slice i.1 i.2.2.1.length i.2.1), (4, .int .i64 i.2.2.2.1), (2, .slice none 0 0), (0, .pointer (some ⟨g0, 0, none⟩))]) I62 (fun i => i.2.2.2.2.2.2.2.2) (none, 0, [], r26, A32, c33, r27.xB.ls, r27.xE, (Int.toNat r26) + 1) ⟨rfl, rfl, rfl, rfl, trivial⟩ (dm64.2 ⟨H58, (show SubS 1 A32 c33 r27.xB.ls A32 c33 r27.xB.ls ∧ ((0 : Nat) : Int) + r26 ≤ 255 ∧ 0 ≤ r26 ∧ Int.toNat r26 < ((Int.toNat r26) + 1) ∧ r18_R_Ops_L0 ((Int.toNat r26) + 1) ([]) r26 r27.xB.ls r27.xE = r18_R_Ops_L0 ((Int.toNat r26) + 1) ([]) r26 r27.xB.ls r27.xE from ⟨by exact (SubS.refl (by omega)), by omega, by omega, by omega, rfl⟩)⟩) ?_
  rintro ⟨A48, c49, l50, z51, A52, c53, l54, z55, f57⟩ w59 hf61
  show Wp _ _ _ [(3, .slice A48 l50.length c49), (4, .int .i64 z51), (2, .slice none 0 0), (0, .pointer (some ⟨g0, 0, none⟩))] _ _
  obtain ⟨H60, hi66, hi67, hi68, hi69, hq65⟩ := dm64.1 hf61
  have hz70 := (hi66).le
  obtain ⟨f71, hf72⟩ : ∃ q, f57 = q + 1 := ⟨f57 - 1, by omega⟩
  subst hf72
  refine Wp.seq (sr (Mz rfl (Kz (.bool (decide (z51 > 0))) (Mz rfl ?_))))
  by_cases h73 : z51 > 0
  refine WL.valG (v := .pointer (some ⟨g0, 0, none⟩)) rfl rfl (dT h73) rfl (Yl.move rfl) (Gz (.pointer (some ⟨g0, 0, none⟩)) (dT h73) (Gz (.pointer (some ⟨g0, 1, none⟩)) (dT h73) (Gl (.int .i64 z55) (dT h73) H60 0 Tryz.isAgg32 (Gz (.bool (decide (z55 = 0))) (dT h73) (fw (.bool (decide (z55 = 0))) (Yl.pickT rfl (dT h73) rfl) (nt ?_))))))
  by_cases h74 : z55 = 0
  refine jT (dT h74) (Wp.skip (Fin.then (Wp.seq (Wp.block (sr (Kz (.agg #[.int .i64 0, .string ⟨List.toArray ([])⟩, .string ⟨List.toArray ([])⟩, .string ⟨List.toArray ([])⟩, .string ⟨List.toArray ([])⟩, .int .i64 0]) ?_))))))
  refine npw [.int .i64 0, .string ⟨List.toArray ([])⟩, .string ⟨List.toArray ([])⟩, .string ⟨List.toArray ([])⟩, .string ⟨List.toArray ([])⟩, .int .i64 0] 64 H60 ?_
  intro g75 w76 H77
  refine sto [.int .i64 0, .string ⟨List.toArray ([])⟩, .string ⟨List.toArray ([])⟩, .string ⟨List.toArray ([])⟩, .string ⟨List.toArray ([])⟩, .int .i64 0] 0 H77 Tryz.sizeOf64 ?_
  intro w78 H79
  refine ns (Mz rfl ?_)
  have H80 := H79.pick [1, 0, 2] (by decide) rfl
  obtain ⟨⟨r86, r87⟩, hr88⟩ : ∃ q : Int × RT, r18_R_Byte (RT.mk (Ll.mk l54) z55) = q := ⟨_, rfl⟩
  obtain ⟨D81, HP82, ro83, bk84, rr85⟩ := Own.enter1 H80
  refine cl Tryz.call90 (r18_R_Byte_ok _ _ g0 (RT.mk (Ll.mk l54) z55) A52 c53 r86 r87 HP82 (fun w9 h9 => SubS.rds eB_len (by decide) hi66 ((fun w9 h9 => SubS.rds eB_len (by decide) hs34 ((ro83 _ hx0x0) w9 h9)) w9 h9)) (show l54.length ≤ c53 ∧ l54.length ≤ 9223372036854775807 from by omega) hr88) ?_
  rintro _ w89 ⟨A92, c93, rfl, HQ90, hs94, hk95⟩
  have H91 := bk84 _ _ HQ90
  replace hs94 : SubS 1 A52 c53 l54 A92 c93 r87.xB.ls := hs94
  have hz96 := (hs94).le
  replace hk95 : 0 ≤ r86 ∧ r86 ≤ 255 := hk95
  refine Kz (.pointer (some ⟨g75, 0, none⟩)) ?_
  have H97 := H91.pick [1, 0, 2] (by decide) rfl
  refine sto [.int .i64 r86] 0 H97 Tryz.sizeOf3 ?_
  intro w98 H99
  refine ns (Mz rfl ?_)
  have H100 := H99.pick [1, 0, 2] (by decide) rfl
  obtain ⟨⟨r106, r107⟩, hr108⟩ : ∃ q : (List UInt8) × RT, r18_R_Text r87 = q := ⟨_, rfl⟩
  obtain ⟨D101, HP102, ro103, bk104, rr105⟩ := Own.enter1 H100
  refine cl Tryz.call92 (r18_R_Text_ok _ _ g0 r87 A92 c93 r106 r107 HP102 (fun w9 h9 => SubS.rds eB_len (by decide) hs94 ((fun w9 h9 => SubS.rds eB_len (by decide) hi66 ((fun w9 h9 => SubS.rds eB_len (by decide) hs34 ((ro103 _ hx0x0) w9 h9)) w9 h9)) w9 h9)) (show r87.xB.ls.length ≤ c93 ∧ r87.xB.ls.length ≤ 9223372036854775807 from by omega) hr108) ?_
  rintro _ w109 ⟨A112, c113, rfl, HQ110, hs114⟩
  have H111 := bk104 _ _ HQ110
  replace hs114 : SubS 1 A92 c93 r87.xB.ls A112 c113 r107.xB.ls := hs114
  have hz115 := (hs114).le
  refine Kz (.pointer (some ⟨g75, 1, none⟩)) ?_
  have H116 := H111.pick [1, 0, 2] (by decide) rfl
  refine sto [.string ⟨List.toArray r106⟩] 1 H116 Tryz.sizeOf9 ?_
  intro w117 H118
  refine ns (Mz rfl ?_)
  have H119 := H118.pick [1, 0, 2] (by decide) rfl
  obtain ⟨⟨r125, r126⟩, hr127⟩ : ∃ q : (List UInt8) × RT, r18_R_Text r107 = q := ⟨_, rfl⟩
  obtain ⟨D120, HP121, ro122, bk123, rr124⟩ := Own.enter1 H119
  refine cl Tryz.call92 (r18_R_Text_ok _ _ g0 r107 A112 c113 r125 r126 HP121 (fun w9 h9 => SubS.rds eB_len (by decide) hs114 ((fun w9 h9 => SubS.rds eB_len (by decide) hs94 ((fun w9 h9 => SubS.rds eB_len (by decide) hi66 ((fun w9 h9 => SubS.rds eB_len (by decide) hs34 ((ro122 _ hx0x0) w9 h9)) w9 h9)) w9 h9)) w9 h9)) (show r107.xB.ls.length ≤ c113 ∧ r107.xB.ls.length ≤ 9223372036854775807 from by omega) hr127) ?_
  rintro _ w128 ⟨A131, c132, rfl, HQ129, hs133⟩
  have H130 := bk123 _ _ HQ129
  replace hs133 : SubS 1 A112 c113 r107.xB.ls A131 c132 r126.xB.ls := hs133
  have hz134 := (hs133).le
  refine Kz (.pointer (some ⟨g75, 2, none⟩)) ?_
  have H135 := H130.pick [1, 0, 2] (by decide) rfl
  refine sto [.string ⟨List.toArray r125⟩] 2 H135 Tryz.sizeOf9 ?_
  intro w136 H137
  refine ns (Mz rfl ?_)
  have H138 := H137.pick [1, 0, 2] (by decide) rfl
  obtain ⟨⟨r144, r145⟩, hr146⟩ : ∃ q : (List UInt8) × RT, r18_R_Text r126 = q := ⟨_, rfl⟩
  obtain ⟨D139, HP140, ro141, bk142, rr143⟩ := Own.enter1 H138
  refine cl Tryz.call92 (r18_R_Text_ok _ _ g0 r126 A131 c132 r144 r145 HP140 (fun w9 h9 => SubS.rds eB_len (by decide) hs133 ((fun w9 h9 => SubS.rds eB_len (by decide) hs114 ((fun w9 h9 => SubS.rds eB_len (by decide) hs94 ((fun w9 h9 => SubS.rds eB_len (by decide) hi66 ((fun w9 h9 => SubS.rds eB_len (by decide) hs34 ((ro141 _ hx0x0) w9 h9)) w9 h9)) w9 h9)) w9 h9)) w9 h9)) (show r126.xB.ls.length ≤ c132 ∧ r126.xB.ls.length ≤ 9223372036854775807 from by omega) hr146) ?_
  rintro _ w147 ⟨A150, c151, rfl, HQ148, hs152⟩
  have H149 := bk142 _ _ HQ148
  replace hs152 : SubS 1 A131 c132 r126.xB.ls A150 c151 r145.xB.ls := hs152
  have hz153 := (hs152).le
  refine Kz (.pointer (some ⟨g75, 3, none⟩)) ?_
  have H154 := H149.pick [1, 0, 2] (by decide) rfl
  refine sto [.string ⟨List.toArray r144⟩] 3 H154 Tryz.sizeOf9 ?_
  intro w155 H156
  refine ns (Mz rfl ?_)
  have H157 := H156.pick [1, 0, 2] (by decide) rfl
  obtain ⟨⟨r163, r164⟩, hr165⟩ : ∃ q : (List UInt8) × RT, r18_R_Text r145 = q := ⟨_, rfl⟩
  obtain ⟨D158, HP159, ro160, bk161, rr162⟩ := Own.enter1 H157
  refine cl Tryz.call92 (r18_R_Text_ok _ _ g0 r145 A150 c151 r163 r164 HP159 (fun w9 h9 => SubS.rds eB_len (by decide) hs152 ((fun w9 h9 => SubS.rds eB_len (by decide) hs133 ((fun w9 h9 => SubS.rds eB_len (by decide) hs114 ((fun w9 h9 => SubS.rds eB_len (by decide) hs94 ((fun w9 h9 => SubS.rds eB_len (by decide) hi66 ((fun w9 h9 => SubS.rds eB_len (by decide) hs34 ((ro160 _ hx0x0) w9 h9)) w9 h9)) w9 h9)) w9 h9)) w9 h9)) w9 h9)) (show r145.xB.ls.length ≤ c151 ∧ r145.xB.ls.length ≤ 9223372036854775807 from by omega) hr165) ?_
  rintro _ w166 ⟨A169, c170, rfl, HQ167, hs171⟩
  have H168 := bk161 _ _ HQ167
  replace hs171 : SubS 1 A150 c151 r145.xB.ls A169 c170 r164.xB.ls := hs171
  have hz172 := (hs171).le
  refine Kz (.pointer (some ⟨g75, 4, none⟩)) ?_
  have H173 := H168.pick [1, 0, 2] (by decide) rfl
  refine sto [.string ⟨List.toArray r163⟩] 4 H173 Tryz.sizeOf9 ?_
  intro w174 H175
  refine ns (Mz rfl ?_)
  have H176 := H175.pick [1, 0, 2] (by decide) rfl
  obtain ⟨⟨r182, r183⟩, hr184⟩ : ∃ q : Int × RT, r18_R_Byte r164 = q := ⟨_, rfl⟩
  obtain ⟨D177, HP178, ro179, bk180, rr181⟩ := Own.enter1 H176
  refine cl Tryz.call90 (r18_R_Byte_ok _ _ g0 r164 A169 c170 r182 r183 HP178 (fun w9 h9 => SubS.rds eB_len (by decide) hs171 ((fun w9 h9 => SubS.rds eB_len (by decide) hs152 ((fun w9 h9 => SubS.rds eB_len (by decide) hs133 ((fun w9 h9 => SubS.rds eB_len (by decide) hs114 ((fun w9 h9 => SubS.rds eB_len (by decide) hs94 ((fun w9 h9 => SubS.rds eB_len (by decide) hi66 ((fun w9 h9 => SubS.rds eB_len (by decide) hs34 ((ro179 _ hx0x0) w9 h9)) w9 h9)) w9 h9)) w9 h9)) w9 h9)) w9 h9)) w9 h9)) (show r164.xB.ls.length ≤ c170 ∧ r164.xB.ls.length ≤ 9223372036854775807 from by omega) hr184) ?_
  rintro _ w185 ⟨A188, c189, rfl, HQ186, hs190, hk191⟩
  have H187 := bk180 _ _ HQ186
  replace hs190 : SubS 1 A169 c170 r164.xB.ls A188 c189 r183.xB.ls := hs190
  have hz192 := (hs190).le
  replace hk191 : 0 ≤ r182 ∧ r182 ≤ 255 := hk191
  refine Kz (.pointer (some ⟨g75, 5, none⟩)) ?_
  have H193 := H187.pick [1, 0, 2] (by decide) rfl
  refine sto [.int .i64 r182] 5 H193 Tryz.sizeOf3 ?_
  intro w194 H195
  refine nt (Wp.region (Mz rfl (La ([.int .i64 r86, .string ⟨List.toArray r106⟩, .string ⟨List.toArray r125⟩, .string ⟨List.toArray r144⟩, .string ⟨List.toArray r163⟩, .int .i64 r182]) H195 0 Tryz.isAgg64 Tryz.sizeOf64 ?_)))
  refine nrw [.int .i64 r86, .string ⟨List.toArray r106⟩, .string ⟨List.toArray r125⟩, .string ⟨List.toArray r144⟩, .string ⟨List.toArray r163⟩, .int .i64 r182] 64 6 1 H195 ?_
  intro A196 w197 H198
  replace H198 := Own.reh (y := row A196 1 1 (List.flatMap OpD.cells ([(OpD.mk r86 r106 r125 r144 r163 r182)])) 64 6) rfl H198
  have H199 := H198.pick [3, 0, 1, 2] (by decide) rfl
  refine WL.do rfl (Do.appendW (k := l50.length) (m := 1) (El25) H199 rfl rfl (src_of Tryz.underlying25 (H199.rds (i := 1) rfl) (flat_one OpD.one ([(OpD.mk r86 r106 r125 r144 r163 r182)]))) rfl (by omega) (s := List.length (l50 ++ [(OpD.mk r86 r106 r125 r144 r163 r182)])) (by first | omega | (simp only [List.length_append, List.length_cons, List.length_nil] <;> omega)) (List.flatMap_append).symm ?_)
  intro A200 c201 w202 H203
  have hl204 : List.length (l50 ++ [(OpD.mk r86 r106 r125 r144 r163 r182)]) = l50.length + 1 := by simp only [List.length_append, List.length_cons, List.length_nil]
  refine Az rfl (WL.nil (Fin.blockN (Fin.then (Wp.region (Mz rfl (fw (.int .i64 (z51 - 1)) (Yl.int (e := IntKind.i64.wrap (z51 - 1)) yk (by rw [IntWalk.i64_in _ (by omega)])) (Az rfl (WL.nil ?_))))))))
  have H205 := H203.pick [3, 0] (by decide) rfl
  exact Fin.round (A200, c201, (l50 ++ [(OpD.mk r86 r106 r125 r144 r163 r182)]), z51 - 1, A188, c189, r183.xB.ls, r183.xE, f71) ⟨rfl, rfl, rfl, rfl, trivial⟩ (dm64.2 ⟨H205, by exact (SubS.trans (SubS.trans (SubS.trans (SubS.trans (SubS.trans (SubS.trans hi66 hs94) hs114) hs133) hs152) hs171) hs190), by omega, by omega, by omega, et (hq65) (et (ip h73) (et (ip h74) (et (bnd_of hr88) (et (bnd_of hr108) (et (bnd_of hr127) (et (bnd_of hr146) (et (bnd_of hr165) (bnd_of hr184))))))))⟩) (by show f71 < f71 + 1; omega)
  refine jF (dF h74) (Wp.exit (Fin.thenX (Fin.thenX (Fin.blockX ?_))))
  have H206 := H60.pick [0, 1] (by decide) rfl
  exact Fin.join (A48, c49, l50, A52, c53, l54, z55) ⟨rfl, rfl, trivial⟩ (dm46.2 ⟨H206, by exact hi66, by omega, by omega, by omega, by omega, bnd_of (et (hq65) (et (ip h73) (iN h74)))⟩)
  refine Sz (dF h73) (Sz (dF h73) (Sz (dF h73) (Sz (dF h73) (Sz (dF h73) (fw (.bool false) (Yl.pickF rfl (dF h73) rfl) (nt (jf (Wp.exit (Fin.thenX (Fin.thenX (Fin.blockX ?_)))))))))))
  have H207 := H60.pick [0, 1] (by decide) rfl
  exact Fin.join (A48, c49, l50, A52, c53, l54, z55) ⟨rfl, rfl, trivial⟩ (dm46.2 ⟨H207, by exact hi66, by omega, by omega, by omega, by omega, bnd_of (et (hq65) (iN h73))⟩)
  rintro ⟨A37, c38, l39, A40, c41, l42, z43⟩ w208 hf210
  show Wp _ _ _ [(3, .slice A37 l39.length c38), (2, .slice none 0 0)] _ _
  obtain ⟨H209, hi212, hi213, hi214, hi215, hi216, hj211⟩ := dm46.1 hf210
  have hz217 := (hi212).le
  refine sr (Mz rfl (An rfl (Wp.ret (rs ?_))))
  have H218 := H209.pick [1, 0] (by decide) rfl
  have e : r18_R_Ops p0 = (l39, RT.mk (Ll.mk l42) z43) := et (bnd_of hr28) (bnd_of hj211)
  obtain ⟨rfl, rfl⟩ := pj2 (e.symm.trans hr)
  exact ⟨A37, c38, A40, c41, rfl, H218, (SubS.trans hs34 hi212), (by first | omega | exact Nat.zero_le _)⟩
def r18_R_Owners_L0 : Nat → List OwnerD → Int → List UInt8 → Int → (List OwnerD) × (List UInt8) × Int
  | 0, l50, z51, l54, z55 => default
  | q56 + 1, l50, z51, l54, z55 => if z51 > 0 then if z55 = 0 then bnd (r18_R_Text (RT.mk (Ll.mk l54) z55)) fun yr86 => bnd (r18_R_Byte yr86.2) fun yr105 => r18_R_Owners_L0 q56 (l50 ++ [(OwnerD.mk yr86.1 yr105.1)]) (z51 - 1) yr105.2.xB.ls yr105.2.xE else (l50, l54, z55) else (l50, l54, z55)
def r18_R_Owners (p0 : RT) : (List OwnerD) × RT :=
  bnd (r18_R_Many p0) fun yr26 => bnd (bnd (r18_R_Owners_L0 ((Int.toNat yr26.1) + 1) ([]) yr26.1 yr26.2.xB.ls yr26.2.xE) fun sLrbJjL => (sLrbJjL.1, sLrbJjL.2.1, sLrbJjL.2.2)) fun sJrbJ => (sJrbJ.1, RT.mk (Ll.mk sJrbJ.2.1) sJrbJ.2.2)
set_option maxRecDepth 100000 in
set_option maxHeartbeats 1000000 in
theorem r18_R_Owners_ok (w : World) (D : Nat → Prop) (g0 : Nat) (p0 : RT) (A0x0 : Option Addr) (c0x0 : Nat) (r0 : List OwnerD) (r1 : RT) (H : Own w D w [blk g0 [.slice A0x0 p0.xB.ls.length c0x0, .int .i64 p0.xE] 75]) (hx0x0 : Ro w D fun w' => Rds w' 1 A0x0 p0.xB.ls.length (List.flatMap eB p0.xB.ls)) (hb0x0 : p0.xB.ls.length ≤ c0x0 ∧ p0.xB.ls.length ≤ 9223372036854775807) (hr : r18_R_Owners p0 = (r0, r1)) :
    Calls Tryz.prog 95 #[.pointer (some ⟨g0, 0, none⟩)] w (Ret fun v w' => ∃ (B0 : Option Addr) (b0 : Nat) (B1ox0 : Option Addr) (b1ox0 : Nat), v = .slice B0 r0.length b0 ∧ Own w D w' [row B0 r0.length b0 (List.flatMap OwnerD.cells r0) 88 2, blk g0 [.slice B1ox0 r1.xB.ls.length b1ox0, .int .i64 r1.xE] 75] ∧ (SubS 1 A0x0 c0x0 p0.xB.ls B1ox0 b1ox0 r1.xB.ls) ∧ (r0.length ≤ 1000)) := by
  refine Calls.body (args := [.pointer (some ⟨g0, 0, none⟩)]) Tryz.func95 rfl rfl rfl ?_
  show Wp _ _ _ [(0, .pointer (some ⟨g0, 0, none⟩))] _ _
  refine sr (Ar rfl (An rfl (Wp.seq (sr (Mz rfl ?_)))))
  obtain ⟨⟨r26, r27⟩, hr28⟩ : ∃ q : Int × RT, r18_R_Many p0 = q := ⟨_, rfl⟩
  obtain ⟨D21, HP22, ro23, bk24, rr25⟩ := Own.enter1 H
  refine cl Tryz.call116 (r18_R_Many_ok _ _ g0 p0 A0x0 c0x0 r26 r27 HP22 (ro23 _ hx0x0) (show p0.xB.ls.length ≤ c0x0 ∧ p0.xB.ls.length ≤ 9223372036854775807 from by omega) hr28) ?_
  rintro _ w29 ⟨A32, c33, rfl, HQ30, hs34, hk35⟩
  have H31 := bk24 _ _ HQ30
  replace hs34 : SubS 1 A0x0 c0x0 p0.xB.ls A32 c33 r27.xB.ls := hs34
  have hz36 := (hs34).le
  replace hk35 : 0 ≤ r26 ∧ r26 ≤ 255 := hk35
  refine An rfl ?_
  obtain ⟨I44, hI45⟩ : ∃ q : ((Option Addr) × Nat × (List OwnerD) × (Option Addr) × Nat × (List UInt8) × Int) → World → Prop, q = fun (i : (Option Addr) × Nat × (List OwnerD) × (Option Addr) × Nat × (List UInt8) × Int) w' => Own w D w' [blk g0 [.slice i.2.2.2.1 i.2.2.2.2.2.1.length i.2.2.2.2.1, .int .i64 i.2.2.2.2.2.2] 75, row i.1 i.2.2.1.length i.2.1 (List.flatMap OwnerD.cells i.2.2.1) 88 2] ∧ (SubS 1 A32 c33 r27.xB.ls i.2.2.2.1 i.2.2.2.2.1 i.2.2.2.2.2.1 ∧ 0 ≤ i.2.2.1.length ∧ i.2.2.2.2.2.1.length ≤ r27.xB.ls.length ∧ i.2.2.2.2.2.1.length ≤ r27.xB.ls.length + 1 ∧ i.2.2.1.length ≤ 1000 ∧ (bnd (r18_R_Owners_L0 ((Int.toNat r26) + 1) ([]) r26 r27.xB.ls r27.xE) fun sLrbJjL => (sLrbJjL.1, sLrbJjL.2.1, sLrbJjL.2.2)) = (i.2.2.1, i.2.2.2.2.2.1, i.2.2.2.2.2.2)) := ⟨_, rfl⟩
  have dm46 : ∀ {A37 : Option Addr} {c38 : Nat} {l39 : List OwnerD} {A40 : Option Addr} {c41 : Nat} {l42 : List UInt8} {z43 : Int} {w' : World}, I44 (A37, c38, l39, A40, c41, l42, z43) w' ↔ Own w D w' [blk g0 [.slice A40 l42.length c41, .int .i64 z43] 75, row A37 l39.length c38 (List.flatMap OwnerD.cells l39) 88 2] ∧ SubS 1 A32 c33 r27.xB.ls A40 c41 l42 ∧ 0 ≤ l39.length ∧ l42.length ≤ r27.xB.ls.length ∧ l42.length ≤ r27.xB.ls.length + 1 ∧ l39.length ≤ 1000 ∧ (bnd (r18_R_Owners_L0 ((Int.toNat r26) + 1) ([]) r26 r27.xB.ls r27.xE) fun sLrbJjL => (sLrbJjL.1, sLrbJjL.2.1, sLrbJjL.2.2)) = (l39, l42, z43) := by intros; subst hI45; exact Iff.rfl
  refine Wp.joinT (fun i : (Option Addr) × Nat × (List OwnerD) × (Option Addr) × Nat × (List UInt8) × Int => [(3, .slice i.1 i.2.2.1.length i.2.1), (2, .slice none 0 0)]) I44 ?_ ?_
  refine Wp.block ?_
  have H47 : Own w D w29 [row none 0 0 (List.flatMap OwnerD.cells ([])) 88 2, blk g0 [.slice A32 r27.xB.ls.length c33, .int .i64 r27.xE] 75] := H31.free (row_nil 88 2)
  have H58 := H47.pick [1, 0] (by decide) rfl
  obtain ⟨I62, hI63⟩ : ∃ q : ((Option Addr) × Nat × (List OwnerD) × Int × (Option Addr) × Nat × (List UInt8) × Int × Nat) → World → Prop, q = fun (i : (Option Addr) × Nat × (List OwnerD) × Int × (Option Addr) × Nat × (List UInt8) × Int × Nat) w' => Own w D w' [blk g0 [.slice i.2.2.2.2.1 i.2.2.2.2.2.2.1.length i.2.2.2.2.2.1, .int .i64 i.2.2.2.2.2.2.2.1] 75, row i.1 i.2.2.1.length i.2.1 (List.flatMap OwnerD.cells i.2.2.1) 88 2] ∧ (SubS 1 A32 c33 r27.xB.ls i.2.2.2.2.1 i.2.2.2.2.2.1 i.2.2.2.2.2.2.1 ∧ ((i.2.2.1.length : Nat) : Int) + i.2.2.2.1 ≤ 255 ∧ 0 ≤ i.2.2.2.1 ∧ Int.toNat i.2.2.2.1 < i.2.2.2.2.2.2.2.2 ∧ r18_R_Owners_L0 ((Int.toNat r26) + 1) ([]) r26 r27.xB.ls r27.xE = r18_R_Owners_L0 i.2.2.2.2.2.2.2.2 i.2.2.1 i.2.2.2.1 i.2.2.2.2.2.2.1 i.2.2.2.2.2.2.2.1) := ⟨_, rfl⟩
  have dm64 : ∀ {A48 : Option Addr} {c49 : Nat} {l50 : List OwnerD} {z51 : Int} {A52 : Option Addr} {c53 : Nat} {l54 : List UInt8} {z55 : Int} {f57 : Nat} {w' : World}, I62 (A48, c49, l50, z51, A52, c53, l54, z55, f57) w' ↔ Own w D w' [blk g0 [.slice A52 l54.length c53, .int .i64 z55] 75, row A48 l50.length c49 (List.flatMap OwnerD.cells l50) 88 2] ∧ SubS 1 A32 c33 r27.xB.ls A52 c53 l54 ∧ ((l50.length : Nat) : Int) + z51 ≤ 255 ∧ 0 ≤ z51 ∧ Int.toNat z51 < f57 ∧ r18_R_Owners_L0 ((Int.toNat r26) + 1) ([]) r26 r27.xB.ls r27.xE = r18_R_Owners_L0 f57 l50 z51 l54 z55 := by intros; subst hI63; exact Iff.rfl
  refine Wp.loop (fun i : (Option Addr) × Nat × (List OwnerD) × Int × (Option Addr) × Nat × (List UInt8) × Int × Nat => [(3, .slice i.1 i.2.2.1.length i.2.1), (4, .int .i64 i.2.2.2.1), (2, .slice none 0 0), (0, .pointer (some ⟨g0, 0, none⟩))]) I62 (fun i => i.2.2.2.2.2.2.2.2) (none, 0, [], r26, A32, c33, r27.xB.ls, r27.xE, (Int.toNat r26) + 1) ⟨rfl, rfl, rfl, rfl, trivial⟩ (dm64.2 ⟨H58, (show SubS 1 A32 c33 r27.xB.ls A32 c33 r27.xB.ls ∧ ((0 : Nat) : Int) + r26 ≤ 255 ∧ 0 ≤ r26 ∧ Int.toNat r26 < ((Int.toNat r26) + 1) ∧ r18_R_Owners_L0 ((Int.toNat r26) + 1) ([]) r26 r27.xB.ls r27.xE = r18_R_Owners_L0 ((Int.toNat r26) + 1) ([]) r26 r27.xB.ls r27.xE from ⟨by exact (SubS.refl (by omega)), by omega, by omega, by omega, rfl⟩)⟩) ?_
  rintro ⟨A48, c49, l50, z51, A52, c53, l54, z55, f57⟩ w59 hf61
  show Wp _ _ _ [(3, .slice A48 l50.length c49), (4, .int .i64 z51), (2, .slice none 0 0), (0, .pointer (some ⟨g0, 0, none⟩))] _ _
  obtain ⟨H60, hi66, hi67, hi68, hi69, hq65⟩ := dm64.1 hf61
  have hz70 := (hi66).le
  obtain ⟨f71, hf72⟩ : ∃ q, f57 = q + 1 := ⟨f57 - 1, by omega⟩
  subst hf72
  refine Wp.seq (sr (Mz rfl (Kz (.bool (decide (z51 > 0))) (Mz rfl ?_))))
  by_cases h73 : z51 > 0
  refine WL.valG (v := .pointer (some ⟨g0, 0, none⟩)) rfl rfl (dT h73) rfl (Yl.move rfl) (Gz (.pointer (some ⟨g0, 0, none⟩)) (dT h73) (Gz (.pointer (some ⟨g0, 1, none⟩)) (dT h73) (Gl (.int .i64 z55) (dT h73) H60 0 Tryz.isAgg32 (Gz (.bool (decide (z55 = 0))) (dT h73) (fw (.bool (decide (z55 = 0))) (Yl.pickT rfl (dT h73) rfl) (nt ?_))))))
  by_cases h74 : z55 = 0
  refine jT (dT h74) (Wp.skip (Fin.then (Wp.seq (Wp.block (sr (Kz (.agg #[.string ⟨List.toArray ([])⟩, .int .i64 0]) ?_))))))
  refine npw [.string ⟨List.toArray ([])⟩, .int .i64 0] 88 H60 ?_
  intro g75 w76 H77
  refine sto [.string ⟨List.toArray ([])⟩, .int .i64 0] 0 H77 Tryz.sizeOf88 ?_
  intro w78 H79
  refine ns (Mz rfl ?_)
  have H80 := H79.pick [1, 0, 2] (by decide) rfl
  obtain ⟨⟨r86, r87⟩, hr88⟩ : ∃ q : (List UInt8) × RT, r18_R_Text (RT.mk (Ll.mk l54) z55) = q := ⟨_, rfl⟩
  obtain ⟨D81, HP82, ro83, bk84, rr85⟩ := Own.enter1 H80
  refine cl Tryz.call92 (r18_R_Text_ok _ _ g0 (RT.mk (Ll.mk l54) z55) A52 c53 r86 r87 HP82 (fun w9 h9 => SubS.rds eB_len (by decide) hi66 ((fun w9 h9 => SubS.rds eB_len (by decide) hs34 ((ro83 _ hx0x0) w9 h9)) w9 h9)) (show l54.length ≤ c53 ∧ l54.length ≤ 9223372036854775807 from by omega) hr88) ?_
  rintro _ w89 ⟨A92, c93, rfl, HQ90, hs94⟩
  have H91 := bk84 _ _ HQ90
  replace hs94 : SubS 1 A52 c53 l54 A92 c93 r87.xB.ls := hs94
  have hz95 := (hs94).le
  refine Kz (.pointer (some ⟨g75, 0, none⟩)) ?_
  have H96 := H91.pick [1, 0, 2] (by decide) rfl
  refine sto [.string ⟨List.toArray r86⟩] 0 H96 Tryz.sizeOf9 ?_
  intro w97 H98
  refine ns (Mz rfl ?_)
  have H99 := H98.pick [1, 0, 2] (by decide) rfl
  obtain ⟨⟨r105, r106⟩, hr107⟩ : ∃ q : Int × RT, r18_R_Byte r87 = q := ⟨_, rfl⟩
  obtain ⟨D100, HP101, ro102, bk103, rr104⟩ := Own.enter1 H99
  refine cl Tryz.call90 (r18_R_Byte_ok _ _ g0 r87 A92 c93 r105 r106 HP101 (fun w9 h9 => SubS.rds eB_len (by decide) hs94 ((fun w9 h9 => SubS.rds eB_len (by decide) hi66 ((fun w9 h9 => SubS.rds eB_len (by decide) hs34 ((ro102 _ hx0x0) w9 h9)) w9 h9)) w9 h9)) (show r87.xB.ls.length ≤ c93 ∧ r87.xB.ls.length ≤ 9223372036854775807 from by omega) hr107) ?_
  rintro _ w108 ⟨A111, c112, rfl, HQ109, hs113, hk114⟩
  have H110 := bk103 _ _ HQ109
  replace hs113 : SubS 1 A92 c93 r87.xB.ls A111 c112 r106.xB.ls := hs113
  have hz115 := (hs113).le
  replace hk114 : 0 ≤ r105 ∧ r105 ≤ 255 := hk114
  refine Kz (.pointer (some ⟨g75, 1, none⟩)) ?_
  have H116 := H110.pick [1, 0, 2] (by decide) rfl
  refine sto [.int .i64 r105] 1 H116 Tryz.sizeOf3 ?_
  intro w117 H118
  refine nt (Wp.region (Mz rfl (La ([.string ⟨List.toArray r86⟩, .int .i64 r105]) H118 0 Tryz.isAgg88 Tryz.sizeOf88 ?_)))
  refine nrw [.string ⟨List.toArray r86⟩, .int .i64 r105] 88 2 1 H118 ?_
  intro A119 w120 H121
  replace H121 := Own.reh (y := row A119 1 1 (List.flatMap OwnerD.cells ([(OwnerD.mk r86 r105)])) 88 2) rfl H121
  have H122 := H121.pick [3, 0, 1, 2] (by decide) rfl
  refine WL.do rfl (Do.appendW (k := l50.length) (m := 1) (El27) H122 rfl rfl (src_of Tryz.underlying27 (H122.rds (i := 1) rfl) (flat_one OwnerD.one ([(OwnerD.mk r86 r105)]))) rfl (by omega) (s := List.length (l50 ++ [(OwnerD.mk r86 r105)])) (by first | omega | (simp only [List.length_append, List.length_cons, List.length_nil] <;> omega)) (List.flatMap_append).symm ?_)
  intro A123 c124 w125 H126
  have hl127 : List.length (l50 ++ [(OwnerD.mk r86 r105)]) = l50.length + 1 := by simp only [List.length_append, List.length_cons, List.length_nil]
  refine Az rfl (WL.nil (Fin.blockN (Fin.then (Wp.region (Mz rfl (fw (.int .i64 (z51 - 1)) (Yl.int (e := IntKind.i64.wrap (z51 - 1)) yk (by rw [IntWalk.i64_in _ (by omega)])) (Az rfl (WL.nil ?_))))))))
  have H128 := H126.pick [3, 0] (by decide) rfl
  exact Fin.round (A123, c124, (l50 ++ [(OwnerD.mk r86 r105)]), z51 - 1, A111, c112, r106.xB.ls, r106.xE, f71) ⟨rfl, rfl, rfl, rfl, trivial⟩ (dm64.2 ⟨H128, by exact (SubS.trans (SubS.trans hi66 hs94) hs113), by omega, by omega, by omega, et (hq65) (et (ip h73) (et (ip h74) (et (bnd_of hr88) (bnd_of hr107))))⟩) (by show f71 < f71 + 1; omega)
  refine jF (dF h74) (Wp.exit (Fin.thenX (Fin.thenX (Fin.blockX ?_))))
  have H129 := H60.pick [0, 1] (by decide) rfl
  exact Fin.join (A48, c49, l50, A52, c53, l54, z55) ⟨rfl, rfl, trivial⟩ (dm46.2 ⟨H129, by exact hi66, by omega, by omega, by omega, by omega, bnd_of (et (hq65) (et (ip h73) (iN h74)))⟩)
  refine Sz (dF h73) (Sz (dF h73) (Sz (dF h73) (Sz (dF h73) (Sz (dF h73) (fw (.bool false) (Yl.pickF rfl (dF h73) rfl) (nt (jf (Wp.exit (Fin.thenX (Fin.thenX (Fin.blockX ?_)))))))))))
  have H130 := H60.pick [0, 1] (by decide) rfl
  exact Fin.join (A48, c49, l50, A52, c53, l54, z55) ⟨rfl, rfl, trivial⟩ (dm46.2 ⟨H130, by exact hi66, by omega, by omega, by omega, by omega, bnd_of (et (hq65) (iN h73))⟩)
  rintro ⟨A37, c38, l39, A40, c41, l42, z43⟩ w131 hf133
  show Wp _ _ _ [(3, .slice A37 l39.length c38), (2, .slice none 0 0)] _ _
  obtain ⟨H132, hi135, hi136, hi137, hi138, hi139, hj134⟩ := dm46.1 hf133
  have hz140 := (hi135).le
  refine sr (Mz rfl (An rfl (Wp.ret (rs ?_))))
  have H141 := H132.pick [1, 0] (by decide) rfl
  have e : r18_R_Owners p0 = (l39, RT.mk (Ll.mk l42) z43) := et (bnd_of hr28) (bnd_of hj134)
  obtain ⟨rfl, rfl⟩ := pj2 (e.symm.trans hr)
  exact ⟨A37, c38, A40, c41, rfl, H141, (SubS.trans hs34 hi135), (by first | omega | exact Nat.zero_le _)⟩
def r18_R_Res_L1 : Nat → Int → List UInt8 → Int → List PairD → (List UInt8) × Int × (List PairD)
  | 0, z156, l159, z160, l163 => default
  | q164 + 1, z156, l159, z160, l163 => if z156 > 0 then if z160 = 0 then bnd (r18_R_Text (RT.mk (Ll.mk l159) z160)) fun yr194 => bnd (r18_R_Text yr194.2) fun yr213 => r18_R_Res_L1 q164 (z156 - 1) yr213.2.xB.ls yr213.2.xE (l163 ++ [(PairD.mk yr194.1 yr213.1)]) else (l159, z160, l163) else (l159, z160, l163)
def r18_R_Res_L0 : Nat → List ResultT → Int → List UInt8 → Int → (List ResultT) × (List UInt8) × Int
  | 0, l52, z54, l57, z58 => default
  | q59 + 1, l52, z54, l57, z58 => if z54 > 0 then if z58 = 0 then bnd (r18_R_Flag (RT.mk (Ll.mk l57) z58)) fun yr91 => bnd (r18_R_Text yr91.2) fun yr110 => bnd (r18_R_Many yr110.2) fun yr129 => bnd (bnd (r18_R_Res_L1 ((Int.toNat yr129.1) + 1) yr129.1 yr129.2.xB.ls yr129.2.xE ([])) fun sLrbJjLsttbbbJjL => (sLrbJjLsttbbbJjL.1, sLrbJjLsttbbbJjL.2.1, sLrbJjLsttbbbJjL.2.2)) fun sJrbJjLsttbbbJ => r18_R_Res_L0 q59 (l52 ++ [(ResultT.mk yr91.1 yr110.1 (Ll.mk sJrbJjLsttbbbJ.2.2))]) (z54 - 1) sJrbJjLsttbbbJ.1 sJrbJjLsttbbbJ.2.1 else (l52, l57, z58) else (l52, l57, z58)
def r18_R_Res (p0 : RT) : (List ResultT) × RT :=
  bnd (r18_R_Many p0) fun yr26 => bnd (bnd (r18_R_Res_L0 ((Int.toNat yr26.1) + 1) ([]) yr26.1 yr26.2.xB.ls yr26.2.xE) fun sLrbJjL => (sLrbJjL.1, sLrbJjL.2.1, sLrbJjL.2.2)) fun sJrbJ => (sJrbJ.1, RT.mk (Ll.mk sJrbJ.2.1) sJrbJ.2.2)
set_option maxRecDepth 100000 in
set_option maxHeartbeats 1000000 in
theorem r18_R_Res_ok (w : World) (D : Nat → Prop) (g0 : Nat) (p0 : RT) (A0x0 : Option Addr) (c0x0 : Nat) (r0 : List ResultT) (r1 : RT) (H : Own w D w [blk g0 [.slice A0x0 p0.xB.ls.length c0x0, .int .i64 p0.xE] 75]) (hx0x0 : Ro w D fun w' => Rds w' 1 A0x0 p0.xB.ls.length (List.flatMap eB p0.xB.ls)) (hb0x0 : p0.xB.ls.length ≤ c0x0 ∧ p0.xB.ls.length ≤ 9223372036854775807) (hr : r18_R_Res p0 = (r0, r1)) :
    Calls Tryz.prog 94 #[.pointer (some ⟨g0, 0, none⟩)] w (Ret fun v w' => ∃ (B0 : Option Addr) (b0 : Nat) (e0 : List ResultD) (B1ox0 : Option Addr) (b1ox0 : Nat), v = .slice B0 r0.length b0 ∧ Own w D w' [row B0 r0.length b0 (List.flatMap ResultD.cells e0) 84 3, sepL (List.flatMap ResultD.own e0), blk g0 [.slice B1ox0 r1.xB.ls.length b1ox0, .int .i64 r1.xE] 75] ∧ (List.map ResultD.abs e0 = r0) ∧ (SubS 1 A0x0 c0x0 p0.xB.ls B1ox0 b1ox0 r1.xB.ls) ∧ (r0.length ≤ 1000)) := by
  refine Calls.body (args := [.pointer (some ⟨g0, 0, none⟩)]) Tryz.func94 rfl rfl rfl ?_
  show Wp _ _ _ [(0, .pointer (some ⟨g0, 0, none⟩))] _ _
  refine sr (Ar rfl (An rfl (Wp.seq (sr (Mz rfl ?_)))))
  obtain ⟨⟨r26, r27⟩, hr28⟩ : ∃ q : Int × RT, r18_R_Many p0 = q := ⟨_, rfl⟩
  obtain ⟨D21, HP22, ro23, bk24, rr25⟩ := Own.enter1 H
  refine cl Tryz.call116 (r18_R_Many_ok _ _ g0 p0 A0x0 c0x0 r26 r27 HP22 (ro23 _ hx0x0) (show p0.xB.ls.length ≤ c0x0 ∧ p0.xB.ls.length ≤ 9223372036854775807 from by omega) hr28) ?_
  rintro _ w29 ⟨A32, c33, rfl, HQ30, hs34, hk35⟩
  have H31 := bk24 _ _ HQ30
  replace hs34 : SubS 1 A0x0 c0x0 p0.xB.ls A32 c33 r27.xB.ls := hs34
  have hz36 := (hs34).le
  replace hk35 : 0 ≤ r26 ∧ r26 ≤ 255 := hk35
  refine An rfl ?_
  obtain ⟨I45, hI46⟩ : ∃ q : ((Option Addr) × Nat × (List ResultD) × (List ResultT) × (Option Addr) × Nat × (List UInt8) × Int) → World → Prop, q = fun (i : (Option Addr) × Nat × (List ResultD) × (List ResultT) × (Option Addr) × Nat × (List UInt8) × Int) w' => Own w D w' [blk g0 [.slice i.2.2.2.2.1 i.2.2.2.2.2.2.1.length i.2.2.2.2.2.1, .int .i64 i.2.2.2.2.2.2.2] 75, row i.1 i.2.2.2.1.length i.2.1 (List.flatMap ResultD.cells i.2.2.1) 84 3, sepL (List.flatMap ResultD.own i.2.2.1)] ∧ (List.map ResultD.abs i.2.2.1 = i.2.2.2.1 ∧ SubS 1 A32 c33 r27.xB.ls i.2.2.2.2.1 i.2.2.2.2.2.1 i.2.2.2.2.2.2.1 ∧ 0 ≤ i.2.2.2.1.length ∧ i.2.2.2.2.2.2.1.length ≤ r27.xB.ls.length ∧ i.2.2.2.2.2.2.1.length ≤ r27.xB.ls.length + 1 ∧ i.2.2.2.1.length ≤ 1000 ∧ (bnd (r18_R_Res_L0 ((Int.toNat r26) + 1) ([]) r26 r27.xB.ls r27.xE) fun sLrbJjL => (sLrbJjL.1, sLrbJjL.2.1, sLrbJjL.2.2)) = (i.2.2.2.1, i.2.2.2.2.2.2.1, i.2.2.2.2.2.2.2)) := ⟨_, rfl⟩
  have dm47 : ∀ {A37 : Option Addr} {c38 : Nat} {d40 : List ResultD} {l39 : List ResultT} {A41 : Option Addr} {c42 : Nat} {l43 : List UInt8} {z44 : Int} {w' : World}, I45 (A37, c38, d40, l39, A41, c42, l43, z44) w' ↔ Own w D w' [blk g0 [.slice A41 l43.length c42, .int .i64 z44] 75, row A37 l39.length c38 (List.flatMap ResultD.cells d40) 84 3, sepL (List.flatMap ResultD.own d40)] ∧ List.map ResultD.abs d40 = l39 ∧ SubS 1 A32 c33 r27.xB.ls A41 c42 l43 ∧ 0 ≤ l39.length ∧ l43.length ≤ r27.xB.ls.length ∧ l43.length ≤ r27.xB.ls.length + 1 ∧ l39.length ≤ 1000 ∧ (bnd (r18_R_Res_L0 ((Int.toNat r26) + 1) ([]) r26 r27.xB.ls r27.xE) fun sLrbJjL => (sLrbJjL.1, sLrbJjL.2.1, sLrbJjL.2.2)) = (l39, l43, z44) := by intros; subst hI46; exact Iff.rfl
  refine Wp.joinT (fun i : (Option Addr) × Nat × (List ResultD) × (List ResultT) × (Option Addr) × Nat × (List UInt8) × Int => [(3, .slice i.1 i.2.2.2.1.length i.2.1), (2, .slice none 0 0)]) I45 ?_ ?_
  refine Wp.block ?_
  have H48 : Own w D w29 [sepL (List.flatMap ResultD.own ([])), blk g0 [.slice A32 r27.xB.ls.length c33, .int .i64 r27.xE] 75] := H31.sepNil
  have H49 : Own w D w29 [row none 0 0 (List.flatMap ResultD.cells ([])) 84 3, sepL (List.flatMap ResultD.own ([])), blk g0 [.slice A32 r27.xB.ls.length c33, .int .i64 r27.xE] 75] := H48.free (row_nil 84 3)
  have H61 := H49.pick [2, 0, 1] (by decide) rfl
  obtain ⟨I65, hI66⟩ : ∃ q : ((Option Addr) × Nat × (List ResultD) × (List ResultT) × Int × (Option Addr) × Nat × (List UInt8) × Int × Nat) → World → Prop, q = fun (i : (Option Addr) × Nat × (List ResultD) × (List ResultT) × Int × (Option Addr) × Nat × (List UInt8) × Int × Nat) w' => Own w D w' [blk g0 [.slice i.2.2.2.2.2.1 i.2.2.2.2.2.2.2.1.length i.2.2.2.2.2.2.1, .int .i64 i.2.2.2.2.2.2.2.2.1] 75, row i.1 i.2.2.2.1.length i.2.1 (List.flatMap ResultD.cells i.2.2.1) 84 3, sepL (List.flatMap ResultD.own i.2.2.1)] ∧ (List.map ResultD.abs i.2.2.1 = i.2.2.2.1 ∧ SubS 1 A32 c33 r27.xB.ls i.2.2.2.2.2.1 i.2.2.2.2.2.2.1 i.2.2.2.2.2.2.2.1 ∧ ((i.2.2.2.1.length : Nat) : Int) + i.2.2.2.2.1 ≤ 255 ∧ 0 ≤ i.2.2.2.2.1 ∧ Int.toNat i.2.2.2.2.1 < i.2.2.2.2.2.2.2.2.2 ∧ r18_R_Res_L0 ((Int.toNat r26) + 1) ([]) r26 r27.xB.ls r27.xE = r18_R_Res_L0 i.2.2.2.2.2.2.2.2.2 i.2.2.2.1 i.2.2.2.2.1 i.2.2.2.2.2.2.2.1 i.2.2.2.2.2.2.2.2.1) := ⟨_, rfl⟩
  have dm67 : ∀ {A50 : Option Addr} {c51 : Nat} {d53 : List ResultD} {l52 : List ResultT} {z54 : Int} {A55 : Option Addr} {c56 : Nat} {l57 : List UInt8} {z58 : Int} {f60 : Nat} {w' : World}, I65 (A50, c51, d53, l52, z54, A55, c56, l57, z58, f60) w' ↔ Own w D w' [blk g0 [.slice A55 l57.length c56, .int .i64 z58] 75, row A50 l52.length c51 (List.flatMap ResultD.cells d53) 84 3, sepL (List.flatMap ResultD.own d53)] ∧ List.map ResultD.abs d53 = l52 ∧ SubS 1 A32 c33 r27.xB.ls A55 c56 l57 ∧ ((l52.length : Nat) : Int) + z54 ≤ 255 ∧ 0 ≤ z54 ∧ Int.toNat z54 < f60 ∧ r18_R_Res_L0 ((Int.toNat r26) + 1) ([]) r26 r27.xB.ls r27.xE = r18_R_Res_L0 f60 l52 z54 l57 z58 := by intros; subst hI66; exact Iff.rfl
  refine Wp.loop (fun i : (Option Addr) × Nat × (List ResultD) × (List ResultT) × Int × (Option Addr) × Nat × (List UInt8) × Int × Nat => [(3, .slice i.1 i.2.2.2.1.length i.2.1), (4, .int .i64 i.2.2.2.2.1), (2, .slice none 0 0), (0, .pointer (some ⟨g0, 0, none⟩))]) I65 (fun i => i.2.2.2.2.2.2.2.2.2) (none, 0, [], [], r26, A32, c33, r27.xB.ls, r27.xE, (Int.toNat r26) + 1) ⟨rfl, rfl, rfl, rfl, trivial⟩ (dm67.2 ⟨H61, (show List.map ResultD.abs ([]) = ([]) ∧ SubS 1 A32 c33 r27.xB.ls A32 c33 r27.xB.ls ∧ ((0 : Nat) : Int) + r26 ≤ 255 ∧ 0 ≤ r26 ∧ Int.toNat r26 < ((Int.toNat r26) + 1) ∧ r18_R_Res_L0 ((Int.toNat r26) + 1) ([]) r26 r27.xB.ls r27.xE = r18_R_Res_L0 ((Int.toNat r26) + 1) ([]) r26 r27.xB.ls r27.xE from ⟨by exact rfl, by exact (SubS.refl (by omega)), by omega, by omega, by omega, rfl⟩)⟩) ?_
  rintro ⟨A50, c51, d53, l52, z54, A55, c56, l57, z58, f60⟩ w62 hf64
  show Wp _ _ _ [(3, .slice A50 l52.length c51), (4, .int .i64 z54), (2, .slice none 0 0), (0, .pointer (some ⟨g0, 0, none⟩))] _ _
  obtain ⟨H63, hi69, hi70, hi71, hi72, hi73, hq68⟩ := dm67.1 hf64
  have hl74 := abs_len hi69
  have hz75 := (hi70).le
  obtain ⟨f76, hf77⟩ : ∃ q, f60 = q + 1 := ⟨f60 - 1, by omega⟩
  subst hf77
  refine Wp.seq (sr (Mz rfl (Kz (.bool (decide (z54 > 0))) (Mz rfl ?_))))
  by_cases h78 : z54 > 0
  refine WL.valG (v := .pointer (some ⟨g0, 0, none⟩)) rfl rfl (dT h78) rfl (Yl.move rfl) (Gz (.pointer (some ⟨g0, 0, none⟩)) (dT h78) (Gz (.pointer (some ⟨g0, 1, none⟩)) (dT h78) (Gl (.int .i64 z58) (dT h78) H63 0 Tryz.isAgg32 (Gz (.bool (decide (z58 = 0))) (dT h78) (fw (.bool (decide (z58 = 0))) (Yl.pickT rfl (dT h78) rfl) (nt ?_))))))
  by_cases h79 : z58 = 0
  refine jT (dT h79) (Wp.skip (Fin.then (Wp.seq (Wp.block (sr (Kz (.agg #[.bool false, .string ⟨List.toArray ([])⟩, .slice none 0 0]) ?_))))))
  refine npw [.bool false, .string ⟨List.toArray ([])⟩, .slice none 0 0] 84 H63 ?_
  intro g80 w81 H82
  refine sto [.bool false, .string ⟨List.toArray ([])⟩, .slice none 0 0] 0 H82 Tryz.sizeOf84 ?_
  intro w83 H84
  refine ns (Mz rfl ?_)
  have H85 := H84.pick [1, 0, 2, 3] (by decide) rfl
  obtain ⟨⟨r91, r92⟩, hr93⟩ : ∃ q : Bool × RT, r18_R_Flag (RT.mk (Ll.mk l57) z58) = q := ⟨_, rfl⟩
  obtain ⟨D86, HP87, ro88, bk89, rr90⟩ := Own.enter1 H85
  refine cl Tryz.call91 (r18_R_Flag_ok _ _ g0 (RT.mk (Ll.mk l57) z58) A55 c56 r91 r92 HP87 (fun w9 h9 => SubS.rds eB_len (by decide) hi70 ((fun w9 h9 => SubS.rds eB_len (by decide) hs34 ((ro88 _ hx0x0) w9 h9)) w9 h9)) (show l57.length ≤ c56 ∧ l57.length ≤ 9223372036854775807 from by omega) hr93) ?_
  rintro _ w94 ⟨A97, c98, rfl, HQ95, hs99⟩
  have H96 := bk89 _ _ HQ95
  replace hs99 : SubS 1 A55 c56 l57 A97 c98 r92.xB.ls := hs99
  have hz100 := (hs99).le
  refine Kz (.pointer (some ⟨g80, 0, none⟩)) ?_
  have H101 := H96.pick [1, 0, 2, 3] (by decide) rfl
  refine sto [.bool r91] 0 H101 Tryz.sizeOf4 ?_
  intro w102 H103
  refine ns (Mz rfl ?_)
  have H104 := H103.pick [1, 0, 2, 3] (by decide) rfl
  obtain ⟨⟨r110, r111⟩, hr112⟩ : ∃ q : (List UInt8) × RT, r18_R_Text r92 = q := ⟨_, rfl⟩
  obtain ⟨D105, HP106, ro107, bk108, rr109⟩ := Own.enter1 H104
  refine cl Tryz.call92 (r18_R_Text_ok _ _ g0 r92 A97 c98 r110 r111 HP106 (fun w9 h9 => SubS.rds eB_len (by decide) hs99 ((fun w9 h9 => SubS.rds eB_len (by decide) hi70 ((fun w9 h9 => SubS.rds eB_len (by decide) hs34 ((ro107 _ hx0x0) w9 h9)) w9 h9)) w9 h9)) (show r92.xB.ls.length ≤ c98 ∧ r92.xB.ls.length ≤ 9223372036854775807 from by omega) hr112) ?_
  rintro _ w113 ⟨A116, c117, rfl, HQ114, hs118⟩
  have H115 := bk108 _ _ HQ114
  replace hs118 : SubS 1 A97 c98 r92.xB.ls A116 c117 r111.xB.ls := hs118
  have hz119 := (hs118).le
  refine Kz (.pointer (some ⟨g80, 1, none⟩)) ?_
  have H120 := H115.pick [1, 0, 2, 3] (by decide) rfl
  refine sto [.string ⟨List.toArray r110⟩] 1 H120 Tryz.sizeOf9 ?_
  intro w121 H122
  refine nt (Wp.seq (sr (Mz rfl ?_)))
  have H123 := H122.pick [1, 0, 2, 3] (by decide) rfl
  obtain ⟨⟨r129, r130⟩, hr131⟩ : ∃ q : Int × RT, r18_R_Many r111 = q := ⟨_, rfl⟩
  obtain ⟨D124, HP125, ro126, bk127, rr128⟩ := Own.enter1 H123
  refine cl Tryz.call116 (r18_R_Many_ok _ _ g0 r111 A116 c117 r129 r130 HP125 (fun w9 h9 => SubS.rds eB_len (by decide) hs118 ((fun w9 h9 => SubS.rds eB_len (by decide) hs99 ((fun w9 h9 => SubS.rds eB_len (by decide) hi70 ((fun w9 h9 => SubS.rds eB_len (by decide) hs34 ((ro126 _ hx0x0) w9 h9)) w9 h9)) w9 h9)) w9 h9)) (show r111.xB.ls.length ≤ c117 ∧ r111.xB.ls.length ≤ 9223372036854775807 from by omega) hr131) ?_
  rintro _ w132 ⟨A135, c136, rfl, HQ133, hs137, hk138⟩
  have H134 := bk127 _ _ HQ133
  replace hs137 : SubS 1 A116 c117 r111.xB.ls A135 c136 r130.xB.ls := hs137
  have hz139 := (hs137).le
  replace hk138 : 0 ≤ r129 ∧ r129 ≤ 255 := hk138
  refine An rfl ?_
  obtain ⟨I152, hI153⟩ : ∃ q : (Int × Int × Bool × Bool × Bool × (Option Addr) × Nat × (List UInt8) × Int × (Option Addr) × Nat × (List PairD)) → World → Prop, q = fun (i : Int × Int × Bool × Bool × Bool × (Option Addr) × Nat × (List UInt8) × Int × (Option Addr) × Nat × (List PairD)) w' => Own w D w' [blk g0 [.slice i.2.2.2.2.2.1 i.2.2.2.2.2.2.2.1.length i.2.2.2.2.2.2.1, .int .i64 i.2.2.2.2.2.2.2.2.1] 75, blk g80 [.bool r91, .string ⟨List.toArray r110⟩, .slice i.2.2.2.2.2.2.2.2.2.1 i.2.2.2.2.2.2.2.2.2.2.2.length i.2.2.2.2.2.2.2.2.2.2.1] 84, row A50 l52.length c51 (List.flatMap ResultD.cells d53) 84 3, sepL (List.flatMap ResultD.own d53), row i.2.2.2.2.2.2.2.2.2.1 i.2.2.2.2.2.2.2.2.2.2.2.length i.2.2.2.2.2.2.2.2.2.2.1 (List.flatMap PairD.cells i.2.2.2.2.2.2.2.2.2.2.2) 86 2] ∧ (SubS 1 A135 c136 r130.xB.ls i.2.2.2.2.2.1 i.2.2.2.2.2.2.1 i.2.2.2.2.2.2.2.1 ∧ (-9223372036854775808 ≤ i.1 ∧ i.1 ≤ 9223372036854775807) ∧ (-9223372036854775808 ≤ i.2.1 ∧ i.2.1 ≤ 9223372036854775807) ∧ i.2.2.2.2.2.2.2.1.length ≤ r130.xB.ls.length ∧ i.2.2.2.2.2.2.2.1.length ≤ r130.xB.ls.length + 1 ∧ 0 ≤ i.2.2.2.2.2.2.2.2.2.2.2.length ∧ (bnd (r18_R_Res_L1 ((Int.toNat r129) + 1) r129 r130.xB.ls r130.xE ([])) fun sLrbJjLsttbbbJjL => (sLrbJjLsttbbbJjL.1, sLrbJjLsttbbbJjL.2.1, sLrbJjLsttbbbJjL.2.2)) = (i.2.2.2.2.2.2.2.1, i.2.2.2.2.2.2.2.2.1, i.2.2.2.2.2.2.2.2.2.2.2)) := ⟨_, rfl⟩
  have dm154 : ∀ {z140 : Int} {z141 : Int} {b142 : Bool} {b143 : Bool} {b144 : Bool} {A145 : Option Addr} {c146 : Nat} {l147 : List UInt8} {z148 : Int} {A149 : Option Addr} {c150 : Nat} {l151 : List PairD} {w' : World}, I152 (z140, z141, b142, b143, b144, A145, c146, l147, z148, A149, c150, l151) w' ↔ Own w D w' [blk g0 [.slice A145 l147.length c146, .int .i64 z148] 75, blk g80 [.bool r91, .string ⟨List.toArray r110⟩, .slice A149 l151.length c150] 84, row A50 l52.length c51 (List.flatMap ResultD.cells d53) 84 3, sepL (List.flatMap ResultD.own d53), row A149 l151.length c150 (List.flatMap PairD.cells l151) 86 2] ∧ SubS 1 A135 c136 r130.xB.ls A145 c146 l147 ∧ (-9223372036854775808 ≤ z140 ∧ z140 ≤ 9223372036854775807) ∧ (-9223372036854775808 ≤ z141 ∧ z141 ≤ 9223372036854775807) ∧ l147.length ≤ r130.xB.ls.length ∧ l147.length ≤ r130.xB.ls.length + 1 ∧ 0 ≤ l151.length ∧ (bnd (r18_R_Res_L1 ((Int.toNat r129) + 1) r129 r130.xB.ls r130.xE ([])) fun sLrbJjLsttbbbJjL => (sLrbJjLsttbbbJjL.1, sLrbJjLsttbbbJjL.2.1, sLrbJjLsttbbbJjL.2.2)) = (l147, z148, l151) := by intros; subst hI153; exact Iff.rfl
  refine Wp.joinT (fun i : Int × Int × Bool × Bool × Bool × (Option Addr) × Nat × (List UInt8) × Int × (Option Addr) × Nat × (List PairD) => [(6, .int .i64 i.1), (30, .int .i64 i.2.1), (31, .bool i.2.2.1), (32, .bool i.2.2.2.1), (38, .bool i.2.2.2.2.1), (29, .int .i64 r129), (28, .pointer (some ⟨g0, 0, none⟩)), (27, .pointer (some ⟨g80, 1, none⟩)), (26, .string ⟨List.toArray r110⟩), (25, .pointer (some ⟨g0, 0, none⟩)), (24, .pointer (some ⟨g80, 0, none⟩)), (23, .bool r91), (22, .pointer (some ⟨g0, 0, none⟩)), (5, .pointer (some ⟨g80, 0, none⟩)), (21, .agg #[.bool false, .string ⟨List.toArray ([])⟩, .slice none 0 0]), (18, .bool (decide (z58 = 0))), (17, .bool (decide (z58 = 0))), (16, .int .i64 z58), (15, .pointer (some ⟨g0, 1, none⟩)), (14, .pointer (some ⟨g0, 0, none⟩)), (13, .pointer (some ⟨g0, 0, none⟩)), (12, .bool (decide (z54 > 0))), (11, .bool (decide (z54 > 0))), (10, .int .i64 z54), (3, .slice A50 l52.length c51), (4, .int .i64 z54), (2, .slice none 0 0), (0, .pointer (some ⟨g0, 0, none⟩))]) I152 ?_ ?_
  refine Wp.block ?_
  have H155 : Own w D w132 [row none 0 0 (List.flatMap PairD.cells ([])) 86 2, blk g0 [.slice A135 r130.xB.ls.length c136, .int .i64 r130.xE] 75, blk g80 [.bool r91, .string ⟨List.toArray r110⟩, .slice none 0 0] 84, row A50 l52.length c51 (List.flatMap ResultD.cells d53) 84 3, sepL (List.flatMap ResultD.own d53)] := H134.free (row_nil 86 2)
  have H166 := H155.pick [1, 2, 3, 4, 0] (by decide) rfl
  obtain ⟨I170, hI171⟩ : ∃ q : (Int × (Option Addr) × Nat × (List UInt8) × Int × (Option Addr) × Nat × (List PairD) × Nat) → World → Prop, q = fun (i : Int × (Option Addr) × Nat × (List UInt8) × Int × (Option Addr) × Nat × (List PairD) × Nat) w' => Own w D w' [blk g0 [.slice i.2.1 i.2.2.2.1.length i.2.2.1, .int .i64 i.2.2.2.2.1] 75, blk g80 [.bool r91, .string ⟨List.toArray r110⟩, .slice i.2.2.2.2.2.1 i.2.2.2.2.2.2.2.1.length i.2.2.2.2.2.2.1] 84, row A50 l52.length c51 (List.flatMap ResultD.cells d53) 84 3, sepL (List.flatMap ResultD.own d53), row i.2.2.2.2.2.1 i.2.2.2.2.2.2.2.1.length i.2.2.2.2.2.2.1 (List.flatMap PairD.cells i.2.2.2.2.2.2.2.1) 86 2] ∧ (SubS 1 A135 c136 r130.xB.ls i.2.1 i.2.2.1 i.2.2.2.1 ∧ ((i.2.2.2.2.2.2.2.1.length : Nat) : Int) + i.1 ≤ 255 ∧ 0 ≤ i.1 ∧ Int.toNat i.1 < i.2.2.2.2.2.2.2.2 ∧ r18_R_Res_L1 ((Int.toNat r129) + 1) r129 r130.xB.ls r130.xE ([]) = r18_R_Res_L1 i.2.2.2.2.2.2.2.2 i.1 i.2.2.2.1 i.2.2.2.2.1 i.2.2.2.2.2.2.2.1) := ⟨_, rfl⟩
  have dm172 : ∀ {z156 : Int} {A157 : Option Addr} {c158 : Nat} {l159 : List UInt8} {z160 : Int} {A161 : Option Addr} {c162 : Nat} {l163 : List PairD} {f165 : Nat} {w' : World}, I170 (z156, A157, c158, l159, z160, A161, c162, l163, f165) w' ↔ Own w D w' [blk g0 [.slice A157 l159.length c158, .int .i64 z160] 75, blk g80 [.bool r91, .string ⟨List.toArray r110⟩, .slice A161 l163.length c162] 84, row A50 l52.length c51 (List.flatMap ResultD.cells d53) 84 3, sepL (List.flatMap ResultD.own d53), row A161 l163.length c162 (List.flatMap PairD.cells l163) 86 2] ∧ SubS 1 A135 c136 r130.xB.ls A157 c158 l159 ∧ ((l163.length : Nat) : Int) + z156 ≤ 255 ∧ 0 ≤ z156 ∧ Int.toNat z156 < f165 ∧ r18_R_Res_L1 ((Int.toNat r129) + 1) r129 r130.xB.ls r130.xE ([]) = r18_R_Res_L1 f165 z156 l159 z160 l163 := by intros; subst hI171; exact Iff.rfl
  refine Wp.loop (fun i : Int × (Option Addr) × Nat × (List UInt8) × Int × (Option Addr) × Nat × (List PairD) × Nat => [(6, .int .i64 i.1), (29, .int .i64 r129), (28, .pointer (some ⟨g0, 0, none⟩)), (27, .pointer (some ⟨g80, 1, none⟩)), (26, .string ⟨List.toArray r110⟩), (25, .pointer (some ⟨g0, 0, none⟩)), (24, .pointer (some ⟨g80, 0, none⟩)), (23, .bool r91), (22, .pointer (some ⟨g0, 0, none⟩)), (5, .pointer (some ⟨g80, 0, none⟩)), (21, .agg #[.bool false, .string ⟨List.toArray ([])⟩, .slice none 0 0]), (18, .bool (decide (z58 = 0))), (17, .bool (decide (z58 = 0))), (16, .int .i64 z58), (15, .pointer (some ⟨g0, 1, none⟩)), (14, .pointer (some ⟨g0, 0, none⟩)), (13, .pointer (some ⟨g0, 0, none⟩)), (12, .bool (decide (z54 > 0))), (11, .bool (decide (z54 > 0))), (10, .int .i64 z54), (3, .slice A50 l52.length c51), (4, .int .i64 z54), (2, .slice none 0 0), (0, .pointer (some ⟨g0, 0, none⟩))]) I170 (fun i => i.2.2.2.2.2.2.2.2) (r129, A135, c136, r130.xB.ls, r130.xE, none, 0, [], (Int.toNat r129) + 1) ⟨rfl, rfl, rfl, rfl, rfl, rfl, rfl, rfl, rfl, rfl, rfl, rfl, rfl, rfl, rfl, rfl, rfl, rfl, rfl, rfl, rfl, rfl, rfl, rfl, trivial⟩ (dm172.2 ⟨H166, (show SubS 1 A135 c136 r130.xB.ls A135 c136 r130.xB.ls ∧ ((0 : Nat) : Int) + r129 ≤ 255 ∧ 0 ≤ r129 ∧ Int.toNat r129 < ((Int.toNat r129) + 1) ∧ r18_R_Res_L1 ((Int.toNat r129) + 1) r129 r130.xB.ls r130.xE ([]) = r18_R_Res_L1 ((Int.toNat r129) + 1) r129 r130.xB.ls r130.xE ([]) from ⟨by exact (SubS.refl (by omega)), by omega, by omega, by omega, rfl⟩)⟩) ?_
  rintro ⟨z156, A157, c158, l159, z160, A161, c162, l163, f165⟩ w167 hf169
  show Wp _ _ _ [(6, .int .i64 z156), (29, .int .i64 r129), (28, .pointer (some ⟨g0, 0, none⟩)), (27, .pointer (some ⟨g80, 1, none⟩)), (26, .string ⟨List.toArray r110⟩), (25, .pointer (some ⟨g0, 0, none⟩)), (24, .pointer (some ⟨g80, 0, none⟩)), (23, .bool r91), (22, .pointer (some ⟨g0, 0, none⟩)), (5, .pointer (some ⟨g80, 0, none⟩)), (21, .agg #[.bool false, .string ⟨List.toArray ([])⟩, .slice none 0 0]), (18, .bool (decide (z58 = 0))), (17, .bool (decide (z58 = 0))), (16, .int .i64 z58), (15, .pointer (some ⟨g0, 1, none⟩)), (14, .pointer (some ⟨g0, 0, none⟩)), (13, .pointer (some ⟨g0, 0, none⟩)), (12, .bool (decide (z54 > 0))), (11, .bool (decide (z54 > 0))), (10, .int .i64 z54), (3, .slice A50 l52.length c51), (4, .int .i64 z54), (2, .slice none 0 0), (0, .pointer (some ⟨g0, 0, none⟩))] _ _
  obtain ⟨H168, hi174, hi175, hi176, hi177, hq173⟩ := dm172.1 hf169
  have hz178 := (hi174).le
  obtain ⟨f179, hf180⟩ : ∃ q, f165 = q + 1 := ⟨f165 - 1, by omega⟩
  subst hf180
  refine Wp.seq (sr (Mz rfl (Kz (.bool (decide (z156 > 0))) (Mz rfl ?_))))
  by_cases h181 : z156 > 0
  refine WL.valG (v := .pointer (some ⟨g0, 0, none⟩)) rfl rfl (dT h181) rfl (Yl.move rfl) (Gz (.pointer (some ⟨g0, 0, none⟩)) (dT h181) (Gz (.pointer (some ⟨g0, 1, none⟩)) (dT h181) (Gl (.int .i64 z160) (dT h181) H168 0 Tryz.isAgg32 (Gz (.bool (decide (z160 = 0))) (dT h181) (fw (.bool (decide (z160 = 0))) (Yl.pickT rfl (dT h181) rfl) (nt ?_))))))
  by_cases h182 : z160 = 0
  refine jT (dT h182) (Wp.skip (Fin.then (Wp.seq (Wp.block (sr (Kz (.agg #[.string ⟨List.toArray ([])⟩, .string ⟨List.toArray ([])⟩]) ?_))))))
  refine npw [.string ⟨List.toArray ([])⟩, .string ⟨List.toArray ([])⟩] 86 H168 ?_
  intro g183 w184 H185
  refine sto [.string ⟨List.toArray ([])⟩, .string ⟨List.toArray ([])⟩] 0 H185 Tryz.sizeOf86 ?_
  intro w186 H187
  refine ns (Mz rfl ?_)
  have H188 := H187.pick [1, 0, 2, 3, 4, 5] (by decide) rfl
  obtain ⟨⟨r194, r195⟩, hr196⟩ : ∃ q : (List UInt8) × RT, r18_R_Text (RT.mk (Ll.mk l159) z160) = q := ⟨_, rfl⟩
  obtain ⟨D189, HP190, ro191, bk192, rr193⟩ := Own.enter1 H188
  refine cl Tryz.call92 (r18_R_Text_ok _ _ g0 (RT.mk (Ll.mk l159) z160) A157 c158 r194 r195 HP190 (fun w9 h9 => SubS.rds eB_len (by decide) hi174 ((fun w9 h9 => SubS.rds eB_len (by decide) hs137 ((fun w9 h9 => SubS.rds eB_len (by decide) hs118 ((fun w9 h9 => SubS.rds eB_len (by decide) hs99 ((fun w9 h9 => SubS.rds eB_len (by decide) hi70 ((fun w9 h9 => SubS.rds eB_len (by decide) hs34 ((ro191 _ hx0x0) w9 h9)) w9 h9)) w9 h9)) w9 h9)) w9 h9)) w9 h9)) (show l159.length ≤ c158 ∧ l159.length ≤ 9223372036854775807 from by omega) hr196) ?_
  rintro _ w197 ⟨A200, c201, rfl, HQ198, hs202⟩
  have H199 := bk192 _ _ HQ198
  replace hs202 : SubS 1 A157 c158 l159 A200 c201 r195.xB.ls := hs202
  have hz203 := (hs202).le
  refine Kz (.pointer (some ⟨g183, 0, none⟩)) ?_
  have H204 := H199.pick [1, 0, 2, 3, 4, 5] (by decide) rfl
  refine sto [.string ⟨List.toArray r194⟩] 0 H204 Tryz.sizeOf9 ?_
  intro w205 H206
  refine ns (Mz rfl ?_)
  have H207 := H206.pick [1, 0, 2, 3, 4, 5] (by decide) rfl
  obtain ⟨⟨r213, r214⟩, hr215⟩ : ∃ q : (List UInt8) × RT, r18_R_Text r195 = q := ⟨_, rfl⟩
  obtain ⟨D208, HP209, ro210, bk211, rr212⟩ := Own.enter1 H207
  refine cl Tryz.call92 (r18_R_Text_ok _ _ g0 r195 A200 c201 r213 r214 HP209 (fun w9 h9 => SubS.rds eB_len (by decide) hs202 ((fun w9 h9 => SubS.rds eB_len (by decide) hi174 ((fun w9 h9 => SubS.rds eB_len (by decide) hs137 ((fun w9 h9 => SubS.rds eB_len (by decide) hs118 ((fun w9 h9 => SubS.rds eB_len (by decide) hs99 ((fun w9 h9 => SubS.rds eB_len (by decide) hi70 ((fun w9 h9 => SubS.rds eB_len (by decide) hs34 ((ro210 _ hx0x0) w9 h9)) w9 h9)) w9 h9)) w9 h9)) w9 h9)) w9 h9)) w9 h9)) (show r195.xB.ls.length ≤ c201 ∧ r195.xB.ls.length ≤ 9223372036854775807 from by omega) hr215) ?_
  rintro _ w216 ⟨A219, c220, rfl, HQ217, hs221⟩
  have H218 := bk211 _ _ HQ217
  replace hs221 : SubS 1 A200 c201 r195.xB.ls A219 c220 r214.xB.ls := hs221
  have hz222 := (hs221).le
  refine Kz (.pointer (some ⟨g183, 1, none⟩)) ?_
  have H223 := H218.pick [1, 0, 2, 3, 4, 5] (by decide) rfl
  refine sto [.string ⟨List.toArray r213⟩] 1 H223 Tryz.sizeOf9 ?_
  intro w224 H225
  refine nt (Wp.region (Kz (.pointer (some ⟨g80, 2, none⟩)) (Lz (.slice A161 l163.length c162) H225 2 Tryz.isAgg82 (La ([.string ⟨List.toArray r194⟩, .string ⟨List.toArray r213⟩]) H225 0 Tryz.isAgg86 Tryz.sizeOf86 ?_))))
  refine nrw [.string ⟨List.toArray r194⟩, .string ⟨List.toArray r213⟩] 86 2 1 H225 ?_
  intro A226 w227 H228
  replace H228 := Own.reh (y := row A226 1 1 (List.flatMap PairD.cells ([(PairD.mk r194 r213)])) 86 2) rfl H228
  have H229 := H228.pick [6, 0, 1, 2, 3, 4, 5] (by decide) rfl
  refine WL.do rfl (Do.appendW (k := l163.length) (m := 1) (El82) H229 rfl rfl (src_of Tryz.underlying82 (H229.rds (i := 1) rfl) (flat_one PairD.one ([(PairD.mk r194 r213)]))) rfl (by omega) (s := List.length (l163 ++ [(PairD.mk r194 r213)])) (by first | omega | (simp only [List.length_append, List.length_cons, List.length_nil] <;> omega)) (List.flatMap_append).symm ?_)
  intro A230 c231 w232 H233
  have hl234 : List.length (l163 ++ [(PairD.mk r194 r213)]) = l163.length + 1 := by simp only [List.length_append, List.length_cons, List.length_nil]
  refine Kz (.pointer (some ⟨g80, 2, none⟩)) ?_
  have H235 := H233.pick [4, 0, 1, 2, 3, 5, 6] (by decide) rfl
  refine sto [.slice A230 (List.length (l163 ++ [(PairD.mk r194 r213)])) c231] 2 H235 Tryz.sizeOf82 ?_
  intro w236 H237
  refine WL.nil (Fin.blockN (Fin.then (Wp.region (Mz rfl (fw (.int .i64 (z156 - 1)) (Yl.int (e := IntKind.i64.wrap (z156 - 1)) yk (by rw [IntWalk.i64_in _ (by omega)])) (Az rfl (WL.nil ?_)))))))
  have H238 := H237.pick [4, 0, 5, 6, 1] (by decide) rfl
  exact Fin.round (z156 - 1, A219, c220, r214.xB.ls, r214.xE, A230, c231, (l163 ++ [(PairD.mk r194 r213)]), f179) ⟨rfl, rfl, rfl, rfl, rfl, rfl, rfl, rfl, rfl, rfl, rfl, rfl, rfl, rfl, rfl, rfl, rfl, rfl, rfl, rfl, rfl, rfl, rfl, rfl, trivial⟩ (dm172.2 ⟨H238, by exact (SubS.trans (SubS.trans hi174 hs202) hs221), by omega, by omega, by omega, et (hq173) (et (ip h181) (et (ip h182) (et (bnd_of hr196) (bnd_of hr215))))⟩) (by show f179 < f179 + 1; omega)
  refine jF (dF h182) (Wp.exit (Fin.thenX (Fin.thenX (Fin.blockX ?_))))
  have H239 := H168.pick [0, 1, 2, 3, 4] (by decide) rfl
  exact Fin.join (z156, z156, decide (z156 > 0), decide (z156 > 0), decide (z160 = 0), A157, c158, l159, z160, A161, c162, l163) ⟨rfl, rfl, rfl, rfl, rfl, rfl, rfl, rfl, rfl, rfl, rfl, rfl, rfl, rfl, rfl, rfl, rfl, rfl, rfl, rfl, rfl, rfl, rfl, rfl, rfl, rfl, rfl, rfl, trivial⟩ (dm154.2 ⟨H239, by exact hi174, by omega, by omega, by omega, by omega, by omega, bnd_of (et (hq173) (et (ip h181) (iN h182)))⟩)
  refine Sz (dF h181) (Sz (dF h181) (Sz (dF h181) (Sz (dF h181) (Sz (dF h181) (fw (.bool false) (Yl.pickF rfl (dF h181) rfl) (nt (jf (Wp.exit (Fin.thenX (Fin.thenX (Fin.blockX ?_)))))))))))
  have H240 := H168.pick [0, 1, 2, 3, 4] (by decide) rfl
  exact Fin.join (z156, z156, decide (z156 > 0), decide (z156 > 0), false, A157, c158, l159, z160, A161, c162, l163) ⟨rfl, rfl, rfl, rfl, rfl, rfl, rfl, rfl, rfl, rfl, rfl, rfl, rfl, rfl, rfl, rfl, rfl, rfl, rfl, rfl, rfl, rfl, rfl, rfl, rfl, rfl, rfl, rfl, trivial⟩ (dm154.2 ⟨H240, (show SubS 1 A135 c136 r130.xB.ls A157 c158 l159 ∧ (-9223372036854775808 ≤ z156 ∧ z156 ≤ 9223372036854775807) ∧ (-9223372036854775808 ≤ z156 ∧ z156 ≤ 9223372036854775807) ∧ l159.length ≤ r130.xB.ls.length ∧ l159.length ≤ r130.xB.ls.length + 1 ∧ 0 ≤ l163.length ∧ (bnd (r18_R_Res_L1 ((Int.toNat r129) + 1) r129 r130.xB.ls r130.xE ([])) fun sLrbJjLsttbbbJjL => (sLrbJjLsttbbbJjL.1, sLrbJjLsttbbbJjL.2.1, sLrbJjLsttbbbJjL.2.2)) = (l159, z160, l163) from ⟨by exact hi174, by omega, by omega, by omega, by omega, by omega, bnd_of (et (hq173) (iN h181))⟩)⟩)
  rintro ⟨z140, z141, b142, b143, b144, A145, c146, l147, z148, A149, c150, l151⟩ w241 hf243
  show Wp _ _ _ [(6, .int .i64 z140), (30, .int .i64 z141), (31, .bool b142), (32, .bool b143), (38, .bool b144), (29, .int .i64 r129), (28, .pointer (some ⟨g0, 0, none⟩)), (27, .pointer (some ⟨g80, 1, none⟩)), (26, .string ⟨List.toArray r110⟩), (25, .pointer (some ⟨g0, 0, none⟩)), (24, .pointer (some ⟨g80, 0, none⟩)), (23, .bool r91), (22, .pointer (some ⟨g0, 0, none⟩)), (5, .pointer (some ⟨g80, 0, none⟩)), (21, .agg #[.bool false, .string ⟨List.toArray ([])⟩, .slice none 0 0]), (18, .bool (decide (z58 = 0))), (17, .bool (decide (z58 = 0))), (16, .int .i64 z58), (15, .pointer (some ⟨g0, 1, none⟩)), (14, .pointer (some ⟨g0, 0, none⟩)), (13, .pointer (some ⟨g0, 0, none⟩)), (12, .bool (decide (z54 > 0))), (11, .bool (decide (z54 > 0))), (10, .int .i64 z54), (3, .slice A50 l52.length c51), (4, .int .i64 z54), (2, .slice none 0 0), (0, .pointer (some ⟨g0, 0, none⟩))] _ _
  obtain ⟨H242, hi245, hi246, hi247, hi248, hi249, hi250, hj244⟩ := dm154.1 hf243
  have hz251 := (hi245).le
  refine Wp.region (Mz rfl (La ([.bool r91, .string ⟨List.toArray r110⟩, .slice A149 l151.length c150]) H242 1 Tryz.isAgg84 Tryz.sizeOf84 ?_))
  refine nrw [.bool r91, .string ⟨List.toArray r110⟩, .slice A149 l151.length c150] 84 3 1 H242 ?_
  intro A252 w253 H254
  replace H254 := Own.reh (y := row A252 1 1 (List.flatMap ResultD.cells ([(ResultD.mk r91 r110 (Sv.mk A149 c150 l151))])) 84 3) rfl H254
  have H255 := H254.pick [3, 4, 5, 0, 1, 2] (by decide) rfl
  refine WL.do rfl (Do.appendW (k := l52.length) (m := 1) (El26) H255 rfl rfl (src_of Tryz.underlying26 (H255.rds (i := 3) rfl) (flat_one ResultD.one ([(ResultD.mk r91 r110 (Sv.mk A149 c150 l151))]))) rfl (by omega) (s := List.length (l52 ++ [(ResultT.mk r91 r110 (Ll.mk l151))])) (by first | omega | (simp only [List.length_append, List.length_cons, List.length_nil] <;> omega)) (List.flatMap_append).symm ?_)
  intro A256 c257 w258 H259
  have H260 := H259.pick [1, 2, 0, 3, 4, 5] (by decide) rfl
  have H261 : Own w D w258 [sepL (List.flatMap ResultD.own (d53 ++ [(ResultD.mk r91 r110 (Sv.mk A149 c150 l151))])), row A256 (List.length (l52 ++ [(ResultT.mk r91 r110 (Ll.mk l151))])) c257 (List.flatMap ResultD.cells (d53 ++ [(ResultD.mk r91 r110 (Sv.mk A149 c150 l151))])) 84 3, row A252 1 1 (List.flatMap ResultD.cells ([(ResultD.mk r91 r110 (Sv.mk A149 c150 l151))])) 84 3, blk g0 [.slice A145 l147.length c146, .int .i64 z148] 75, blk g80 [.bool r91, .string ⟨List.toArray r110⟩, .slice A149 l151.length c150] 84] := H260.sepAdd (L2 := [row A149 l151.length c150 (List.flatMap PairD.cells l151) 86 2]) (List.flatMap_append (f := ResultD.own) (xs := d53) (ys := [(ResultD.mk r91 r110 (Sv.mk A149 c150 l151))])).symm
  have hl262 : List.length (l52 ++ [(ResultT.mk r91 r110 (Ll.mk l151))]) = l52.length + 1 := by simp only [List.length_append, List.length_cons, List.length_nil]
  have hl263 := abs_len (abs_app (es := [(ResultD.mk r91 r110 (Sv.mk A149 c150 l151))]) (ms := [(ResultT.mk r91 r110 (Ll.mk l151))]) hi69 rfl)
  refine Az rfl (WL.nil (Fin.blockN (Fin.then (Wp.region (Mz rfl (fw (.int .i64 (z54 - 1)) (Yl.int (e := IntKind.i64.wrap (z54 - 1)) yk (by rw [IntWalk.i64_in _ (by omega)])) (Az rfl (WL.nil ?_))))))))
  have H264 := H261.pick [3, 1, 0] (by decide) rfl
  exact Fin.round (A256, c257, (d53 ++ [(ResultD.mk r91 r110 (Sv.mk A149 c150 l151))]), (l52 ++ [(ResultT.mk r91 r110 (Ll.mk l151))]), z54 - 1, A145, c146, l147, z148, f76) ⟨rfl, rfl, rfl, rfl, trivial⟩ (dm67.2 ⟨H264, by exact (abs_app (es := [(ResultD.mk r91 r110 (Sv.mk A149 c150 l151))]) (ms := [(ResultT.mk r91 r110 (Ll.mk l151))]) hi69 rfl), by exact (SubS.trans (SubS.trans (SubS.trans (SubS.trans hi70 hs99) hs118) hs137) hi245), by omega, by omega, by omega, et (hq68) (et (ip h78) (et (ip h79) (et (bnd_of hr93) (et (bnd_of hr112) (et (bnd_of hr131) (bnd_of hj244))))))⟩) (by show f76 < f76 + 1; omega)
  refine jF (dF h79) (Wp.exit (Fin.thenX (Fin.thenX (Fin.blockX ?_))))
  have H265 := H63.pick [0, 1, 2] (by decide) rfl
  exact Fin.join (A50, c51, d53, l52, A55, c56, l57, z58) ⟨rfl, rfl, trivial⟩ (dm47.2 ⟨H265, by exact hi69, by exact hi70, by omega, by omega, by omega, by omega, bnd_of (et (hq68) (et (ip h78) (iN h79)))⟩)
  refine Sz (dF h78) (Sz (dF h78) (Sz (dF h78) (Sz (dF h78) (Sz (dF h78) (fw (.bool false) (Yl.pickF rfl (dF h78) rfl) (nt (jf (Wp.exit (Fin.thenX (Fin.thenX (Fin.blockX ?_)))))))))))
  have H266 := H63.pick [0, 1, 2] (by decide) rfl
  exact Fin.join (A50, c51, d53, l52, A55, c56, l57, z58) ⟨rfl, rfl, trivial⟩ (dm47.2 ⟨H266, by exact hi69, by exact hi70, by omega, by omega, by omega, by omega, bnd_of (et (hq68) (iN h78))⟩)
  rintro ⟨A37, c38, d40, l39, A41, c42, l43, z44⟩ w267 hf269
  show Wp _ _ _ [(3, .slice A37 l39.length c38), (2, .slice none 0 0)] _ _
  obtain ⟨H268, hi271, hi272, hi273, hi274, hi275, hi276, hj270⟩ := dm47.1 hf269
  have hl277 := abs_len hi271
  have hz278 := (hi272).le
  refine sr (Mz rfl (An rfl (Wp.ret (rs ?_))))
  have H279 := H268.pick [1, 2, 0] (by decide) rfl
  have e : r18_R_Res p0 = (l39, RT.mk (Ll.mk l43) z44) := et (bnd_of hr28) (bnd_of hj270)
  obtain ⟨rfl, rfl⟩ := pj2 (e.symm.trans hr)
  exact ⟨A37, c38, d40, A41, c42, rfl, H279, hi271, (SubS.trans hs34 hi272), (by first | omega | exact Nat.zero_le _)⟩
end Go.Proofs.YtccjclalngabhaaGreat
