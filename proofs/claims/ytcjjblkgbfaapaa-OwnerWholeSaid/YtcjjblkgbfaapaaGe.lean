/-
 owner: the chapter's examples.
-/
import Derived.Test.YtcjjblkgbfaapaaGc
namespace Go.Proofs.Ytcjjblkgbfaapaa
open Go.RowKit
set_option linter.unusedVariables false
set_option linter.unusedSectionVars false
set_option linter.unusedSimpArgs false
theorem El22 : Elem Try.prog 22 39 2 24 := elem_of (z := .agg #[.string ⟨List.toArray ([])⟩, .int .i64 0]) Try.underlying22 (by kernel_rfl) rfl (by decide)
structure OwnerD where
 xLo : List UInt8
 xShard : Int
def OwnerD.cells (x : OwnerD) : List Value := [.string ⟨List.toArray x.xLo⟩, .int .i64 x.xShard]
instance : Bk OwnerD := ⟨fun x _ => bk x.xLo + (bk x.xShard + (0))⟩
theorem OwnerD.len : ∀ x, (OwnerD.cells x).length = 2 := fun _ => rfl
theorem OwnerD.one : ∀ x, ∀ u ∈ OwnerD.cells x, u.oneCell' = true := fun x u hu => by
 simp only [OwnerD.cells, List.mem_cons, List.not_mem_nil, or_false] at hu
 rcases hu with rfl | rfl <;> rfl
def OwnerD.Ok (w : World) (x : OwnerD) : Prop := (x.xLo.length ≤ 140737488351232) ∧ ((-9223372036854775808) ≤ x.xShard ∧ x.xShard ≤ 9223372036854775807)
set_option maxRecDepth 100000 in
theorem opens_OwnerD (w : World) : Opens Try.prog w 39 2 OwnerD.cells (OwnerD.Ok w) :=
 (opens_struct (sz := 2) Try.underlying39 (by kernel_rfl) (OpensF.cons (i := 0) (off := 0) (s := 1) rfl rfl (opens_string Try.underlying9 (by kernel_rfl)) (OpensF.cons (i := 1) (off := 1) (s := 1) rfl rfl (opens_int (k := .i64) (lo := -9223372036854775808) (hi := 9223372036854775807) Try.underlying3 (by kernel_rfl) (by decide) (by decide)) OpensF.nil))).map (fun p => ⟨p.1, p.2.1⟩) OwnerD.len (fun _ => rfl) (fun _ h => ⟨h.1, h.2.1⟩) fun _ => Nat.le_refl _
instance : Inhabited OwnerD := ⟨⟨default, default⟩⟩
def owner_isShard (p0 : Int) : Bool :=
 if p0 ≥ 1 then decide (p0 ≤ 4) else false
set_option maxRecDepth 100000 in
theorem owner_isShard_ok (w : World) (D : Nat → Prop) (p0 : Int) (r0 : Bool) (H : Own w D w [])  (hr : owner_isShard p0 = r0) :
    Calls Try.prog 38 #[.int .i64 p0] w (Ret fun v w' => v = .bool r0 ∧ Own w D w' []) := by
 refine Calls.body (args := [.int .i64 p0]) Try.func38 rfl rfl rfl ?_
 show Wp _ _ _ [(0, .int .i64 p0)] _ _
 refine sr (Ar rfl (Mz rfl (Kz (.bool (decide (p0 ≥ 1))) (Mz rfl ?_))))
 by_cases h21 : p0 ≥ 1
 refine gw (.int .i64 p0) (dT h21) (Yl.move rfl) (Gz (.bool (decide (p0 ≤ 4))) (dT h21) (fw (.bool (decide (p0 ≤ 4))) (Yl.pickT rfl (dT h21) rfl) (An rfl (rt (rs ?_)))))
 have H22 : Own w D w [] := H.pk []
 obtain rfl : _ = decide (p0 ≤ 4) := hr.symm.trans (ip h21)
 exact ⟨rfl, H22⟩
 refine Sz (dF h21) (Sz (dF h21) (fw (.bool false) (Yl.pickF rfl (dF h21) rfl) (An rfl (rt (rs ?_)))))
 have H23 : Own w D w [] := H.pk []
 obtain rfl : _ = false := hr.symm.trans (iN h21)
 exact ⟨rfl, H23⟩
def owner_Check_L0 (l0 : List OwnerD) : List OwnerD → Nat → Unit ⊕ Int
  | [], k29 => Sum.inl ()
  | x41 :: q30, k29 => bnd (owner_isShard x41.xShard) fun yr49 => if yr49 = true then if ((k29 : Nat) : Int) > 0 then bnd (span_CheckKey x41.xLo) fun yr63 => if yr63 = 0 then bnd (List.getD l0 (k29 - 1) default) fun yx70 => if x41.xLo ≤ yx70.xLo then Sum.inr (170) else owner_Check_L0 l0 q30 (k29 + 1) else Sum.inr (170) else owner_Check_L0 l0 q30 (k29 + 1) else Sum.inr (170)
def owner_Check (l0 : List OwnerD) : Int :=
 if ((l0.length : Nat) : Int) < 1 then 170 else if ((l0.length : Nat) : Int) > 6 then 170 else bnd (List.getD l0 0 default) fun yx25 => if yx25.xLo ≠ ([]) then 170 else lp (owner_Check_L0 l0 l0 0) fun _ => 0
set_option maxRecDepth 100000 in
theorem owner_Check_ok (w : World) (D : Nat → Prop) (A0 : Option Addr) (n0 c0 : Nat) (l0 : List OwnerD) (r0 : Int) (H : Own w D w []) (hx0 : Ro w D fun w' => Rds w' 2 A0 n0 (List.flatMap OwnerD.cells l0)) (hn0 : n0 = l0.length) (hl0 : l0.length * 24 ≤ 211106232532992) (hr : owner_Check l0 = r0) :
    Calls Try.prog 14 #[.slice A0 n0 c0] w (Ret fun v w' => v = .int .i64 r0 ∧ Own w D w' [] ∧ (¬ (r0 = 0) ∨ (1 ≤ l0.length ∧ l0.length ≤ 6))) := by
 subst hn0
 refine Calls.body (args := [.slice A0 l0.length c0]) Try.func14 rfl rfl rfl ?_
 show Wp _ _ _ [(0, .slice A0 l0.length c0)] _ _
 refine sr (An rfl (Wp.seq (sr (Mz rfl (Kz (.int .i64 ((l0.length : Nat) : Int)) (Kz (.bool (decide (((l0.length : Nat) : Int) < 1))) (Mz rfl ?_)))))))
 by_cases h21 : ((l0.length : Nat) : Int) < 1
 refine Sz (dT h21) (Sz (dT h21) (Sz (dT h21) (fw (.bool true) (Yl.pickT rfl (dT h21) rfl) (Mz rfl (Sz rfl (Sz rfl (Sz rfl (Sz rfl (Sz rfl (fw (.bool true) (Yl.pickT rfl rfl rfl) (nt (jt (sr (An rfl (rt (tR (rs ?_)))))))))))))))))
 have H22 : Own w D w [] := H.pk []
 obtain rfl : _ = 170 := hr.symm.trans (ip h21)
 exact ⟨rfl, H22, (by omega)⟩
 refine gw (.slice A0 l0.length c0) (dF h21) (Yl.move rfl) (Gz (.int .i64 ((l0.length : Nat) : Int)) (dF h21) (Gz (.bool (decide (((l0.length : Nat) : Int) > 6))) (dF h21) (fw (.bool (decide (((l0.length : Nat) : Int) > 6))) (Yl.pickF rfl (dF h21) rfl) (Mz rfl ?_))))
 by_cases h23 : ((l0.length : Nat) : Int) > 6
 refine Sz (dT h23) (Sz (dT h23) (Sz (dT h23) (Sz (dT h23) (Sz (dT h23) (fw (.bool true) (Yl.pickT rfl (dT h23) rfl) (nt (jt (sr (An rfl (rt (tR (rs ?_))))))))))))
 have H24 : Own w D w [] := H.pk []
 obtain rfl : _ = 170 := hr.symm.trans (et (iN h21) (ip h23))
 exact ⟨rfl, H24, (by omega)⟩
 refine gw (.slice A0 l0.length c0) (dF h23) (Yl.move rfl) ?_
 obtain ⟨x25, hx26⟩ := rds_at (ls := l0) (i := 0) OwnerD.len (by decide) (H.ro hx0) (by first | omega | (simp; done) | (simp; omega))
 refine gw (.pointer (some ⟨ab A0, ao A0 + 0 * 2, none⟩)) (dF h23) (Yl.indexAddr (El22) rfl rfl ((H.ro hx0).addr (i := 0) (by omega)) (by omega)) (Gz (.pointer (some ⟨ab A0, ao A0 + 0 * 2, none⟩)) (dF h23) (gw (.string ⟨List.toArray x25.xLo⟩) (dF h23) (Yl.load rfl (Lds.one Try.isAgg9 (((H.ro hx0).elem OwnerD.len hx26 (by decide)).at_ (k := 0) rfl))) (gw (.bool (decide (x25.xLo ≠ ([])))) (dF h23) (Yl.strNe rfl rfl) (fw (.bool (decide (x25.xLo ≠ ([])))) (Yl.pickF rfl (dF h23) rfl) (nt ?_)))))
 by_cases h27 : x25.xLo ≠ ([])
 refine jT (dT h27) (sr (An rfl (rt (tR (rs ?_)))))
 have H28 : Own w D w [] := H.pk []
 obtain rfl : _ = 170 := hr.symm.trans (et (iN h21) (et (iN h23) (et (bnd_of (getD_of hx26)) (ip h27))))
 exact ⟨rfl, H28, (by omega)⟩
 refine jF (dF h27) (sk (Wp.seq (sr (Mz rfl (Kz (.int .i64 ((l0.length : Nat) : Int)) (Mn rfl (bo ?_)))))))
 have H31 : Own w D w [] := H.pk []
 obtain ⟨I35, hI36⟩ : ∃ q : Nat → World → Prop, q = fun (i : Nat) w' => Own w D w' [] ∧ (i ≤ l0.length ∧ owner_Check_L0 l0 l0 0 = owner_Check_L0 l0 (List.drop i l0) i) := ⟨_, rfl⟩
 have dm37 : ∀ {k29 : Nat} {w' : World}, I35 k29 w' ↔ Own w D w' [] ∧ k29 ≤ l0.length ∧ owner_Check_L0 l0 l0 0 = owner_Check_L0 l0 (List.drop k29 l0) k29 := by intros; subst hI36; exact Iff.rfl
 refine Wp.loop (fun i : Nat => [(2, .int .i64 0), (21, .int .i64 ((i : Nat) : Int)), (20, .int .i64 ((l0.length : Nat) : Int)), (0, .slice A0 l0.length c0)]) I35 (fun i => l0.length - i) 0 ⟨rfl, rfl, rfl, rfl, trivial⟩ (dm37.2 ⟨H31, by omega, rfl⟩) ?_
 rintro k29 w32 hf34
 show Wp _ _ _ [(2, .int .i64 0), (21, .int .i64 ((k29 : Nat) : Int)), (20, .int .i64 ((l0.length : Nat) : Int)), (0, .slice A0 l0.length c0)] _ _
 obtain ⟨H33, hi39, hq38⟩ := dm37.1 hf34
 refine sr (Kz (.bool (decide (((k29 : Nat) : Int) < ((l0.length : Nat) : Int)))) (nt (Wp.seq ?_)))
 by_cases h40 : ((k29 : Nat) : Int) < ((l0.length : Nat) : Int)
 obtain ⟨x41, hx42⟩ := rds_at (ls := l0) (i := k29) OwnerD.len (by decide) (H33.ro hx0) (by first | omega | (simp; done) | (simp; omega))
 have hd43 := drop_at hx42
 refine jT (dT h40) (sk (Wp.seq (bo (sr (Mz rfl (An rfl (Wp.seq (sr (Mz rfl (Mz rfl (fw (.pointer (some ⟨ab A0, ao A0 + k29 * 2, none⟩)) (Yl.indexAddr (El22) rfl rfl ((H33.ro hx0).addr (i := k29) (by omega)) (by omega)) (Kz (.pointer (some ⟨ab A0, ao A0 + k29 * 2 + 1, none⟩)) (fw (.int .i64 x41.xShard) (Yl.load rfl (Lds.one Try.isAgg3 (((H33.ro hx0).elem OwnerD.len hx42 (by decide)).at_ (k := 1) rfl))) ?_)))))))))))))
 obtain ⟨r49, hr50⟩ : ∃ q, owner_isShard x41.xShard = q := ⟨_, rfl⟩
 obtain ⟨D44, HP45, ro46, bk47, rr48⟩ := Own.enter0 H33
 refine cl Try.call38 (owner_isShard_ok _ _ x41.xShard r49 HP45 hr50) ?_
 rintro _ w51 ⟨rfl, HQ52⟩
 have H53 := bk47 _ _ HQ52
 refine Kz (.bool (!r49)) (nt ?_)
 rcases Bool.eq_false_or_eq_true (r49) with h54 | h54
 refine jF (cn h54) (sk (Wp.seq ?_))
 have H56 := H53.drew
 refine Wp.drawnX [] (fun W => ∃ L', Own w D W ([] ++ L')) (by kernel_rfl) (by kernel_rfl) (NoP.then (NoP.block (NoP.then (NoP.then (NoP.block (NoP.then NoP.base)))))) ⟨_, H56⟩ ?_
 revert H56
 generalize World.drew w51 = w55
 intro H56
 refine GX.take (v := .int .i64 ((k29 : Nat) : Int)) (rs := []) 0 rfl (by kernel_rfl) (fun _ _ => Yl.move rfl) (GX.take (v := .bool (decide (((k29 : Nat) : Int) > 0))) (rs := []) 1 rfl (by kernel_rfl) (fun _ _ => yk) (GX.take (v := .bool (decide (((k29 : Nat) : Int) > 0))) (rs := []) 2 rfl (by kernel_rfl) (fun _ _ => Yl.move rfl) ?_))
 by_cases h57 : ((k29 : Nat) : Int) > 0
 refine GX.takeG (v := .slice A0 l0.length c0) (rs := []) 3 rfl rfl rfl (dT h57) (by kernel_rfl) (fun _ _ => Yl.move rfl) (GX.takeG (v := .int .i64 ((k29 : Nat) : Int)) (rs := []) 4 rfl rfl rfl (dT h57) (by kernel_rfl) (fun _ _ => Yl.move rfl) (GX.takeG (v := .pointer (some ⟨ab A0, ao A0 + k29 * 2, none⟩)) (rs := []) 5 rfl rfl rfl (dT h57) (by kernel_rfl) (fun _ ⟨_, H9⟩ => Yl.indexAddr (El22) rfl rfl ((H9.ro hx0).addr (i := k29) (by omega)) (by omega)) (GX.takeG (v := .pointer (some ⟨ab A0, ao A0 + k29 * 2, none⟩)) (rs := []) 6 rfl rfl rfl (dT h57) (by kernel_rfl) (fun _ _ => yk) (GX.takeG (v := .string ⟨List.toArray x41.xLo⟩) (rs := []) 7 rfl rfl rfl (dT h57) (by kernel_rfl) (fun _ ⟨_, H9⟩ => Yl.load rfl (Lds.one Try.isAgg9 (((H9.ro hx0).elem OwnerD.len hx42 (by decide)).at_ (k := 0) rfl))) ?_))))
 obtain ⟨r63, hr64⟩ : ∃ q, span_CheckKey x41.xLo = q := ⟨_, rfl⟩
 obtain ⟨D58, HP59, ro60, bk61, rr62⟩ := Own.enter0 H56
 refine GX.doG 8 rfl rfl rfl (dT h57) (by kernel_rfl) (Do.call Try.call31 rfl (span_CheckKey_ok _ _ x41.xLo r63 HP59 hr64) ?_)
 rintro _ w65 ⟨rfl, HQ66, hk68⟩
 have H67 := bk61 _ _ HQ66
 replace hk68 : ¬ (r63 = 0) ∨ (1 ≤ x41.xLo.length ∧ x41.xLo.length ≤ 12) := hk68
 refine ⟨.inr ⟨_, H67⟩, ?_⟩
 refine GX.takeG (v := .bool (decide (¬ (r63 = 0)))) (rs := []) 9 rfl rfl rfl (dT h57) (by kernel_rfl) (fun _ _ => Yl.bool (e := !(decide (r63 = 0))) yk decide_not.symm) (GX.takeG (v := .bool (decide (¬ (r63 = 0)))) (rs := []) 10 rfl rfl rfl (dT h57) (by kernel_rfl) (fun _ _ => Yl.move rfl) ?_)
 by_cases h69 : r63 = 0
 refine GX.takeG (v := .slice A0 l0.length c0) (rs := []) 11 rfl rfl rfl (dF (not_not_intro h69)) (by kernel_rfl) (fun _ _ => Yl.move rfl) (GX.takeG (v := .int .i64 ((k29 : Nat) : Int)) (rs := []) 12 rfl rfl rfl (dF (not_not_intro h69)) (by kernel_rfl) (fun _ _ => Yl.move rfl) (GX.takeG (v := .pointer (some ⟨ab A0, ao A0 + k29 * 2, none⟩)) (rs := []) 13 rfl rfl rfl (dF (not_not_intro h69)) (by kernel_rfl) (fun _ ⟨_, H9⟩ => Yl.indexAddr (El22) rfl rfl ((H9.ro hx0).addr (i := k29) (by omega)) (by omega)) (GX.takeG (v := .pointer (some ⟨ab A0, ao A0 + k29 * 2, none⟩)) (rs := []) 14 rfl rfl rfl (dF (not_not_intro h69)) (by kernel_rfl) (fun _ _ => yk) (GX.takeG (v := .string ⟨List.toArray x41.xLo⟩) (rs := []) 15 rfl rfl rfl (dF (not_not_intro h69)) (by kernel_rfl) (fun _ ⟨_, H9⟩ => Yl.load rfl (Lds.one Try.isAgg9 (((H9.ro hx0).elem OwnerD.len hx42 (by decide)).at_ (k := 0) rfl))) (GX.takeG (v := .slice A0 l0.length c0) (rs := []) 16 rfl rfl rfl (dF (not_not_intro h69)) (by kernel_rfl) (fun _ _ => Yl.move rfl) (GX.takeG (v := .int .i64 ((k29 : Nat) : Int)) (rs := []) 17 rfl rfl rfl (dF (not_not_intro h69)) (by kernel_rfl) (fun _ _ => Yl.move rfl) (GX.takeG (v := .int .i64 ((k29 - 1 : Nat) : Int)) (rs := []) 18 rfl rfl rfl (dF (not_not_intro h69)) (by kernel_rfl) (fun _ _ => Yl.int (e := IntKind.i64.wrap (((k29 : Nat) : Int) - 1)) yk (by rw [IntWalk.i64_in _ (by omega)]; omega)) ?_)))))))
 obtain ⟨x70, hx71⟩ := at_of (ls := l0) (i := k29 - 1) (by first | omega | (simp; done) | (simp; omega))
 refine GX.takeG (v := .pointer (some ⟨ab A0, ao A0 + (k29 - 1) * 2, none⟩)) (rs := []) 19 rfl rfl rfl (dF (not_not_intro h69)) (by kernel_rfl) (fun _ ⟨_, H9⟩ => Yl.indexAddr (El22) rfl rfl ((H9.ro hx0).addr (i := k29 - 1) (by omega)) (by omega)) (GX.takeG (v := .pointer (some ⟨ab A0, ao A0 + (k29 - 1) * 2, none⟩)) (rs := []) 20 rfl rfl rfl (dF (not_not_intro h69)) (by kernel_rfl) (fun _ _ => yk) (GX.takeG (v := .string ⟨List.toArray x70.xLo⟩) (rs := []) 21 rfl rfl rfl (dF (not_not_intro h69)) (by kernel_rfl) (fun _ ⟨_, H9⟩ => Yl.load rfl (Lds.one Try.isAgg9 (((H9.ro hx0).elem OwnerD.len hx71 (by decide)).at_ (k := 0) rfl))) (GX.takeG (v := .bool (decide (x41.xLo ≤ x70.xLo))) (rs := []) 22 rfl rfl rfl (dF (not_not_intro h69)) (by kernel_rfl) (fun _ _ => Yl.bool (e := Op.bytesLess x41.xLo x70.xLo || decide (x41.xLo = x70.xLo)) (Yl.strLe rfl rfl) (bl_le _ _)) (GX.takeG (v := .bool (decide (x41.xLo ≤ x70.xLo))) (rs := []) 23 rfl rfl rfl (dT h57) (by kernel_rfl) (fun _ _ => Yl.pickF rfl (dF (not_not_intro h69)) rfl) (GX.take (v := .bool (decide (x41.xLo ≤ x70.xLo))) (rs := []) 24 rfl (by kernel_rfl) (fun _ _ => Yl.pickT rfl (dT h57) rfl) (GX.done (by kernel_rfl) (Fin.then ?_)))))))
 by_cases h72 : x41.xLo ≤ x70.xLo
 refine jT (dT h72) (sr (An rfl (rt (bR (tR (tR (bR (tR (rs ?_)))))))))
 have H73 := H67.pk []
 obtain rfl : _ = 170 := hr.symm.trans (et (iN h21) (et (iN h23) (et (bnd_of (getD_of hx26)) (et (iN h27) (lp_r (et (hq38) (et (congrArg (fun q => owner_Check_L0 l0 q k29) hd43) (et (bnd_of hr50) (et (ip h54) (et (ip h57) (et (bnd_of hr64) (et (ip h69) (et (bnd_of (getD_of hx71)) (ip h72))))))))))))))
 exact ⟨rfl, H73, (by omega)⟩
 refine jF (dF h72) (Wp.skip (bN (Fin.then (Wp.region (fw (.int .i64 ((k29 + 1 : Nat) : Int)) (Yl.int (e := IntKind.i64.wrap (((k29 : Nat) : Int) + 1)) yk (by rw [IntWalk.i64_in _ (by omega)]; omega)) (Mz rfl (WL.nil ?_)))))))
 have H74 := H67.pk []
 exact Fin.round (k29 + 1) ⟨rfl, rfl, rfl, rfl, trivial⟩ (dm37.2 ⟨H74, by omega, et (hq38) (et (congrArg (fun q => owner_Check_L0 l0 q k29) hd43) (et (bnd_of hr50) (et (ip h54) (et (ip h57) (et (bnd_of hr64) (et (ip h69) (et (bnd_of (getD_of hx71)) (iN h72))))))))⟩) (by show l0.length - (k29 + 1) < l0.length - k29; omega)
 refine GX.skipG (rs := []) 11 rfl rfl rfl (dT h69) (by kernel_rfl) (GX.skipG (rs := []) 12 rfl rfl rfl (dT h69) (by kernel_rfl) (GX.skipG (rs := []) 13 rfl rfl rfl (dT h69) (by kernel_rfl) (GX.skipG (rs := []) 14 rfl rfl rfl (dT h69) (by kernel_rfl) (GX.skipG (rs := []) 15 rfl rfl rfl (dT h69) (by kernel_rfl) (GX.skipG (rs := []) 16 rfl rfl rfl (dT h69) (by kernel_rfl) (GX.skipG (rs := []) 17 rfl rfl rfl (dT h69) (by kernel_rfl) (GX.skipG (rs := []) 18 rfl rfl rfl (dT h69) (by kernel_rfl) (GX.skipG (rs := []) 19 rfl rfl rfl (dT h69) (by kernel_rfl) (GX.skipG (rs := []) 20 rfl rfl rfl (dT h69) (by kernel_rfl) (GX.skipG (rs := []) 21 rfl rfl rfl (dT h69) (by kernel_rfl) (GX.skipG (rs := []) 22 rfl rfl rfl (dT h69) (by kernel_rfl) (GX.takeG (v := .bool true) (rs := []) 23 rfl rfl rfl (dT h57) (by kernel_rfl) (fun _ _ => Yl.pickT rfl (dT h69) rfl) (GX.take (v := .bool true) (rs := []) 24 rfl (by kernel_rfl) (fun _ _ => Yl.pickT rfl (dT h57) rfl) (GX.done (by kernel_rfl) (Fin.then (jt (sr (An rfl (rt (bR (tR (tR (bR (tR (rs ?_)))))))))))))))))))))))))
 have H75 := H67.pk []
 obtain rfl : _ = 170 := hr.symm.trans (et (iN h21) (et (iN h23) (et (bnd_of (getD_of hx26)) (et (iN h27) (lp_r (et (hq38) (et (congrArg (fun q => owner_Check_L0 l0 q k29) hd43) (et (bnd_of hr50) (et (ip h54) (et (ip h57) (et (bnd_of hr64) (iN h69))))))))))))
 exact ⟨rfl, H75, (by omega)⟩
 refine GX.skipG (rs := []) 3 rfl rfl rfl (dF h57) (by kernel_rfl) (GX.skipG (rs := []) 4 rfl rfl rfl (dF h57) (by kernel_rfl) (GX.skipG (rs := []) 5 rfl rfl rfl (dF h57) (by kernel_rfl) (GX.skipG (rs := []) 6 rfl rfl rfl (dF h57) (by kernel_rfl) (GX.skipG (rs := []) 7 rfl rfl rfl (dF h57) (by kernel_rfl) (GX.skipG (rs := []) 8 rfl rfl rfl (dF h57) (by kernel_rfl) (GX.skipG (rs := []) 9 rfl rfl rfl (dF h57) (by kernel_rfl) (GX.skipG (rs := []) 10 rfl rfl rfl (dF h57) (by kernel_rfl) (GX.skipUG (rs := []) 11 rfl rfl rfl (by kernel_rfl) (GX.skipUG (rs := []) 12 rfl rfl rfl (by kernel_rfl) (GX.skipUG (rs := []) 13 rfl rfl rfl (by kernel_rfl) (GX.skipUG (rs := []) 14 rfl rfl rfl (by kernel_rfl) (GX.skipUG (rs := []) 15 rfl rfl rfl (by kernel_rfl) (GX.skipUG (rs := []) 16 rfl rfl rfl (by kernel_rfl) (GX.skipUG (rs := []) 17 rfl rfl rfl (by kernel_rfl) (GX.skipUG (rs := []) 18 rfl rfl rfl (by kernel_rfl) (GX.skipUG (rs := []) 19 rfl rfl rfl (by kernel_rfl) (GX.skipUG (rs := []) 20 rfl rfl rfl (by kernel_rfl) (GX.skipUG (rs := []) 21 rfl rfl rfl (by kernel_rfl) (GX.skipUG (rs := []) 22 rfl rfl rfl (by kernel_rfl) (GX.skipG (rs := []) 23 rfl rfl rfl (dF h57) (by kernel_rfl) (GX.take (v := .bool false) (rs := []) 24 rfl (by kernel_rfl) (fun _ _ => Yl.pickF rfl (dF h57) rfl) (GX.done (by kernel_rfl) (Fin.then (jf (Wp.skip (bN (Fin.then (Wp.region (fw (.int .i64 ((k29 + 1 : Nat) : Int)) (Yl.int (e := IntKind.i64.wrap (((k29 : Nat) : Int) + 1)) yk (by rw [IntWalk.i64_in _ (by omega)]; omega)) (Mz rfl (WL.nil ?_)))))))))))))))))))))))))))))))
 have H76 := H56.pk []
 exact Fin.round (k29 + 1) ⟨rfl, rfl, rfl, rfl, trivial⟩ (dm37.2 ⟨H76, by omega, et (hq38) (et (congrArg (fun q => owner_Check_L0 l0 q k29) hd43) (et (bnd_of hr50) (et (ip h54) (iN h57))))⟩) (by show l0.length - (k29 + 1) < l0.length - k29; omega)
 refine jT (cn h54) (sr (An rfl (rt (tR (bR (tR (tR (bR (tR (rs ?_))))))))))
 have H77 := H53.pk []
 obtain rfl : _ = 170 := hr.symm.trans (et (iN h21) (et (iN h23) (et (bnd_of (getD_of hx26)) (et (iN h27) (lp_r (et (hq38) (et (congrArg (fun q => owner_Check_L0 l0 q k29) hd43) (et (bnd_of hr50) (ifF h54)))))))))
 exact ⟨rfl, H77, (by omega)⟩
 refine jF (dF h40) (Wp.exit (Fin.thenX ?_))
 have hL78 : owner_Check_L0 l0 l0 0 = Sum.inl () := et (hq38) (et (congrArg (fun q => owner_Check_L0 l0 q k29) (drop_end (ls := l0) (i := k29) (by omega))) rfl)
 refine Fin.thenX (Fin.blockX (Fin.then (sr (An rfl (rt (rs ?_))))))
 have H79 := H33.pk []
 obtain rfl : _ = 0 := hr.symm.trans (et (iN h21) (et (iN h23) (et (bnd_of (getD_of hx26)) (et (iN h27) (lp_l hL78)))))
 exact ⟨rfl, H79, (by omega)⟩
def owner_place_L0 (p1 : List UInt8) : List OwnerD → Nat → Nat → Nat
  | [], k21, k22 => k21
  | x39 :: q23, k21, k22 => if x39.xLo ≤ p1 then owner_place_L0 p1 q23 k22 (k22 + 1) else owner_place_L0 p1 q23 k21 (k22 + 1)
def owner_place (l0 : List OwnerD) (p1 : List UInt8) : Int :=
 bnd (owner_place_L0 p1 l0 0 0) fun sLrL => ((sLrL : Nat) : Int)
set_option maxRecDepth 100000 in
theorem owner_place_ok (w : World) (D : Nat → Prop) (A0 : Option Addr) (n0 c0 : Nat) (l0 : List OwnerD) (p1 : List UInt8) (r0 : Int) (H : Own w D w []) (hx0 : Ro w D fun w' => Rds w' 2 A0 n0 (List.flatMap OwnerD.cells l0)) (hn0 : n0 = l0.length) (hl0 : l0.length * 24 ≤ 211106232532992) (hh0 : 1 ≤ l0.length) (hr : owner_place l0 p1 = r0) :
    Calls Try.prog 33 #[.slice A0 n0 c0, .string ⟨List.toArray p1⟩] w (Ret fun v w' => v = .int .i64 r0 ∧ Own w D w' [] ∧ (0 ≤ r0 ∧ r0 < ((l0.length : Nat) : Int))) := by
 subst hn0
 refine Calls.body (args := [.slice A0 l0.length c0, .string ⟨List.toArray p1⟩]) Try.func33 rfl rfl rfl ?_
 show Wp _ _ _ [(0, .slice A0 l0.length c0), (1, .string ⟨List.toArray p1⟩)] _ _
 refine sr (Ar rfl (An rfl (Wp.seq (sr (Mz rfl (Kz (.int .i64 ((l0.length : Nat) : Int)) (Mn rfl (bo ?_))))))))
 have H24 : Own w D w [] := H.pk []
 obtain ⟨I28, hI29⟩ : ∃ q : (Nat × Nat) → World → Prop, q = fun (i : Nat × Nat) w' => Own w D w' [] ∧ (i.2 ≤ l0.length ∧ i.1 ≤ i.2 ∧ i.1 ≤ i.2 ∧ i.1 ≤ l0.length ∧ 0 ≤ i.1 ∧ i.1 < l0.length ∧ owner_place_L0 p1 l0 0 0 = owner_place_L0 p1 (List.drop i.2 l0) i.1 i.2) := ⟨_, rfl⟩
 have dm30 : ∀ {k21 : Nat} {k22 : Nat} {w' : World}, I28 (k21, k22) w' ↔ Own w D w' [] ∧ k22 ≤ l0.length ∧ k21 ≤ k22 ∧ k21 ≤ k22 ∧ k21 ≤ l0.length ∧ 0 ≤ k21 ∧ k21 < l0.length ∧ owner_place_L0 p1 l0 0 0 = owner_place_L0 p1 (List.drop k22 l0) k21 k22 := by intros; subst hI29; exact Iff.rfl
 refine Wp.loop (fun i : Nat × Nat => [(5, .int .i64 ((i.1 : Nat) : Int)), (9, .int .i64 ((i.2 : Nat) : Int)), (8, .int .i64 ((l0.length : Nat) : Int)), (4, .int .i64 0), (0, .slice A0 l0.length c0), (1, .string ⟨List.toArray p1⟩)]) I28 (fun i => l0.length - i.2) (0, 0) ⟨rfl, rfl, rfl, rfl, rfl, rfl, trivial⟩ (dm30.2 ⟨H24, by omega, by omega, by omega, by omega, by omega, by omega, rfl⟩) ?_
 rintro ⟨k21, k22⟩ w25 hf27
 show Wp _ _ _ [(5, .int .i64 ((k21 : Nat) : Int)), (9, .int .i64 ((k22 : Nat) : Int)), (8, .int .i64 ((l0.length : Nat) : Int)), (4, .int .i64 0), (0, .slice A0 l0.length c0), (1, .string ⟨List.toArray p1⟩)] _ _
 obtain ⟨H26, hi32, hi33, hi34, hi35, hi36, hi37, hq31⟩ := dm30.1 hf27
 refine sr (Kz (.bool (decide (((k22 : Nat) : Int) < ((l0.length : Nat) : Int)))) (nt (Wp.seq ?_)))
 by_cases h38 : ((k22 : Nat) : Int) < ((l0.length : Nat) : Int)
 obtain ⟨x39, hx40⟩ := rds_at (ls := l0) (i := k22) OwnerD.len (by decide) (H26.ro hx0) (by first | omega | (simp; done) | (simp; omega))
 have hd41 := drop_at hx40
 refine jT (dT h38) (sk (Wp.seq (bo (sr (Mz rfl (Ar rfl (Mz rfl (Mz rfl (fw (.pointer (some ⟨ab A0, ao A0 + k22 * 2, none⟩)) (Yl.indexAddr (El22) rfl rfl ((H26.ro hx0).addr (i := k22) (by omega)) (by omega)) (Kz (.pointer (some ⟨ab A0, ao A0 + k22 * 2, none⟩)) (fw (.string ⟨List.toArray x39.xLo⟩) (Yl.load rfl (Lds.one Try.isAgg9 (((H26.ro hx0).elem OwnerD.len hx40 (by decide)).at_ (k := 0) rfl))) (Mz rfl (fw (.bool (decide (x39.xLo ≤ p1))) (Yl.bool (e := Op.bytesLess x39.xLo p1 || decide (x39.xLo = p1)) (Yl.strLe rfl rfl) (bl_le _ _)) (nt ?_))))))))))))))
 by_cases h42 : x39.xLo ≤ p1
 refine jT (dT h42) (Wp.region (Mz rfl (Az rfl (WL.nil (bN (Fin.then (Wp.region (fw (.int .i64 ((k22 + 1 : Nat) : Int)) (Yl.int (e := IntKind.i64.wrap (((k22 : Nat) : Int) + 1)) yk (by rw [IntWalk.i64_in _ (by omega)]; omega)) (Mz rfl (WL.nil ?_))))))))))
 have H43 := H26.pk []
 exact Fin.round (k22, k22 + 1) ⟨rfl, rfl, rfl, rfl, rfl, rfl, trivial⟩ (dm30.2 ⟨H43, by omega, by omega, by omega, by omega, by omega, by omega, et (hq31) (et (congrArg (fun q => owner_place_L0 p1 q k21 k22) hd41) (ip h42))⟩) (by show l0.length - (k22 + 1) < l0.length - k22; omega)
 refine jF (dF h42) (Wp.skip (bN (Fin.then (Wp.region (fw (.int .i64 ((k22 + 1 : Nat) : Int)) (Yl.int (e := IntKind.i64.wrap (((k22 : Nat) : Int) + 1)) yk (by rw [IntWalk.i64_in _ (by omega)]; omega)) (Mz rfl (WL.nil ?_)))))))
 have H44 := H26.pk []
 exact Fin.round (k21, k22 + 1) ⟨rfl, rfl, rfl, rfl, rfl, rfl, trivial⟩ (dm30.2 ⟨H44, by omega, by omega, by omega, by omega, by omega, by omega, et (hq31) (et (congrArg (fun q => owner_place_L0 p1 q k21 k22) hd41) (iN h42))⟩) (by show l0.length - (k22 + 1) < l0.length - k22; omega)
 refine jF (dF h38) (Wp.exit (Fin.thenX ?_))
 have hL45 : owner_place_L0 p1 l0 0 0 = k21 := et (hq31) (et (congrArg (fun q => owner_place_L0 p1 q k21 k22) (drop_end (ls := l0) (i := k22) (by omega))) rfl)
 refine Fin.thenX (Fin.blockX (Fin.then (sr (Mz rfl (An rfl (rt (rs ?_)))))))
 have H46 := H26.pk []
 obtain rfl : _ = ((k21 : Nat) : Int) := hr.symm.trans (bnd_of hL45)
 exact ⟨rfl, H46, (by omega)⟩
def owner_rangeOf (l0 : List OwnerD) (p1 : Int) : RangeD :=
 bnd (List.getD l0 (Int.toNat p1) default) fun yx24 => if p1 + 1 < ((l0.length : Nat) : Int) then bnd (List.getD l0 (Int.toNat (p1 + 1)) default) fun yx32 => RangeD.mk yx24.xLo yx32.xLo else RangeD.mk yx24.xLo ([])
set_option maxRecDepth 100000 in
theorem owner_rangeOf_ok (w : World) (D : Nat → Prop) (A0 : Option Addr) (n0 c0 : Nat) (l0 : List OwnerD) (p1 : Int) (r0 : RangeD) (H : Own w D w []) (hx0 : Ro w D fun w' => Rds w' 2 A0 n0 (List.flatMap OwnerD.cells l0)) (hn0 : n0 = l0.length) (hl0 : l0.length * 24 ≤ 211106232532992) (hh0 : 0 ≤ p1 ∧ p1 < ((l0.length : Nat) : Int)) (hr : owner_rangeOf l0 p1 = r0) :
    Calls Try.prog 36 #[.slice A0 n0 c0, .int .i64 p1] w (Ret fun v w' => v = .agg (RangeD.cells r0).toArray ∧ Own w D w' []) := by
 subst hn0
 refine Calls.body (args := [.slice A0 l0.length c0, .int .i64 p1]) Try.func36 rfl rfl rfl ?_
 show Wp _ _ _ [(0, .slice A0 l0.length c0), (1, .int .i64 p1)] _ _
 refine sr ?_
 refine npw [.string ⟨List.toArray ([])⟩, .string ⟨List.toArray ([])⟩] 24 H ?_
 intro g21 w22 H23
 refine ns (Mz rfl (fw (.int .i64 ((Int.toNat p1 : Nat) : Int)) (Yl.int (e := p1) (Yl.move rfl) (by omega)) ?_))
 obtain ⟨x24, hx25⟩ := rds_at (ls := l0) (i := Int.toNat p1) OwnerD.len (by decide) (H23.ro hx0) (by first | omega | (simp; done) | (simp; omega))
 refine fw (.pointer (some ⟨ab A0, ao A0 + (Int.toNat p1) * 2, none⟩)) (Yl.indexAddr (El22) rfl rfl ((H23.ro hx0).addr (i := Int.toNat p1) (by omega)) (by omega)) (Kz (.pointer (some ⟨ab A0, ao A0 + (Int.toNat p1) * 2, none⟩)) (fw (.string ⟨List.toArray x24.xLo⟩) (Yl.load rfl (Lds.one Try.isAgg9 (((H23.ro hx0).elem OwnerD.len hx25 (by decide)).at_ (k := 0) rfl))) (Kz (.agg #[.string ⟨List.toArray x24.xLo⟩, .string ⟨List.toArray ([])⟩]) ?_)))
 refine npw [.string ⟨List.toArray ([])⟩, .string ⟨List.toArray ([])⟩] 24 H23 ?_
 intro g26 w27 H28
 refine sto [.string ⟨List.toArray x24.xLo⟩, .string ⟨List.toArray ([])⟩] 0 H28 Try.sizeOf24 ?_
 intro w29 H30
 refine nt (Wp.seq (sr (Mz rfl (fw (.int .i64 (p1 + 1)) (Yl.int (e := IntKind.i64.wrap (p1 + 1)) yk (by rw [IntWalk.i64_in _ (by omega)])) (Mz rfl (Kz (.int .i64 ((l0.length : Nat) : Int)) (Kz (.bool (decide (p1 + 1 < ((l0.length : Nat) : Int)))) (nt ?_))))))))
 by_cases h31 : p1 + 1 < ((l0.length : Nat) : Int)
 refine jT (dT h31) (Wp.region (Mz rfl (Mz rfl (fw (.int .i64 ((Int.toNat (p1 + 1) : Nat) : Int)) (Yl.int (e := IntKind.i64.wrap (p1 + 1)) yk (by rw [IntWalk.i64_in _ (by omega)]; omega)) ?_))))
 obtain ⟨x32, hx33⟩ := rds_at (ls := l0) (i := Int.toNat (p1 + 1)) OwnerD.len (by decide) (H30.ro hx0) (by first | omega | (simp; done) | (simp; omega))
 refine fw (.pointer (some ⟨ab A0, ao A0 + (Int.toNat (p1 + 1)) * 2, none⟩)) (Yl.indexAddr (El22) rfl rfl ((H30.ro hx0).addr (i := Int.toNat (p1 + 1)) (by omega)) (by omega)) (Kz (.pointer (some ⟨ab A0, ao A0 + (Int.toNat (p1 + 1)) * 2, none⟩)) (fw (.string ⟨List.toArray x32.xLo⟩) (Yl.load rfl (Lds.one Try.isAgg9 (((H30.ro hx0).elem OwnerD.len hx33 (by decide)).at_ (k := 0) rfl))) (Kz (.pointer (some ⟨g26, 1, none⟩)) ?_)))
 refine sto [.string ⟨List.toArray x32.xLo⟩] 1 H30 Try.sizeOf9 ?_
 intro w34 H35
 refine ns (La ([.string ⟨List.toArray x24.xLo⟩, .string ⟨List.toArray x32.xLo⟩]) H35 0 Try.isAgg24 Try.sizeOf24 ?_)
 have H36 := H35.pk [1, 0]
 refine sto [.string ⟨List.toArray x24.xLo⟩, .string ⟨List.toArray x32.xLo⟩] 0 H36 Try.sizeOf24 ?_
 intro w37 H38
 refine nt (rt (Fin.res (resC rfl rfl (Lds.agg (cs := [.string ⟨List.toArray x24.xLo⟩, .string ⟨List.toArray x32.xLo⟩]) Try.isAgg24 Try.sizeOf24 ((H38.cls (i := 0) rfl).lit (k := 0) (m := 2) rfl))) ?_))
 have H39 := H38.pk []
 obtain rfl : _ = RangeD.mk x24.xLo x32.xLo := hr.symm.trans (et (bnd_of (getD_of hx25)) (et (ip h31) (bnd_of (getD_of hx33))))
 exact ⟨rfl, H39⟩
 refine jF (dF h31) (sk (sr (La ([.string ⟨List.toArray x24.xLo⟩, .string ⟨List.toArray ([])⟩]) H30 0 Try.isAgg24 Try.sizeOf24 ?_)))
 have H40 := H30.pk [1, 0]
 refine sto [.string ⟨List.toArray x24.xLo⟩, .string ⟨List.toArray ([])⟩] 0 H40 Try.sizeOf24 ?_
 intro w41 H42
 refine nt (rt (Fin.res (resC rfl rfl (Lds.agg (cs := [.string ⟨List.toArray x24.xLo⟩, .string ⟨List.toArray ([])⟩]) Try.isAgg24 Try.sizeOf24 ((H42.cls (i := 0) rfl).lit (k := 0) (m := 2) rfl))) ?_))
 have H43 := H42.pk []
 obtain rfl : _ = RangeD.mk x24.xLo ([]) := hr.symm.trans (et (bnd_of (getD_of hx25)) (iN h31))
 exact ⟨rfl, H43⟩
def owner_Find (l0 : List OwnerD) (p1 : List UInt8) : Int × Int :=
 bnd (owner_Check l0) fun yr26 => if yr26 = 0 then bnd (span_CheckKey p1) fun yr38 => if yr38 = 0 then bnd (owner_place l0 p1) fun yr50 => (yr50, 0) else (0, yr38) else (0, yr26)
set_option maxRecDepth 100000 in
theorem owner_Find_ok (w : World) (D : Nat → Prop) (A0 : Option Addr) (n0 c0 : Nat) (l0 : List OwnerD) (p1 : List UInt8) (r0 : Int) (r1 : Int) (H : Own w D w []) (hx0 : Ro w D fun w' => Rds w' 2 A0 n0 (List.flatMap OwnerD.cells l0)) (hn0 : n0 = l0.length) (hl0 : l0.length * 24 ≤ 211106232532992) (hr : owner_Find l0 p1 = (r0, r1)) :
    Calls Try.prog 10 #[.slice A0 n0 c0, .string ⟨List.toArray p1⟩] w (Ret fun v w' => v = .tuple #[.int .i64 r0, .int .i64 r1] ∧ Own w D w' [] ∧ (¬ (r1 = 0) ∨ (0 ≤ r0 ∧ r0 < ((l0.length : Nat) : Int) ∧ l0.length ≤ 6)) ∧ (¬ (owner_Check l0 = 0) ∨ p1.length < 1 ∨ p1.length > 12 ∨ (0 ≤ r0 ∧ r0 < ((l0.length : Nat) : Int))) ∧ (¬ (r1 = 0) ∨ owner_Check l0 = 0)) := by
 subst hn0
 refine Calls.body (args := [.slice A0 l0.length c0, .string ⟨List.toArray p1⟩]) Try.func10 rfl rfl rfl ?_
 show Wp _ _ _ [(0, .slice A0 l0.length c0), (1, .string ⟨List.toArray p1⟩)] _ _
 refine sr (Az rfl (An rfl (Wp.seq (sr (Mz rfl ?_)))))
 obtain ⟨r26, hr27⟩ : ∃ q, owner_Check l0 = q := ⟨_, rfl⟩
 obtain ⟨D21, HP22, ro23, bk24, rr25⟩ := Own.enter0 H
 refine cl Try.call14 (owner_Check_ok _ _ A0 l0.length c0 l0 r26 HP22 (ro23 _ hx0) rfl (by omega) hr27) ?_
 rintro _ w28 ⟨rfl, HQ29, hk31⟩
 have H30 := bk24 _ _ HQ29
 replace hk31 : ¬ (r26 = 0) ∨ (1 ≤ l0.length ∧ l0.length ≤ 6) := hk31
 refine Ar rfl (Mz rfl (fw (.bool (decide (¬ (r26 = 0)))) (Yl.bool (e := !(decide (r26 = 0))) yk decide_not.symm) (nt ?_)))
 by_cases h32 : r26 = 0
 refine jF (dF (not_not_intro h32)) (sk (Wp.seq (sr (Mz rfl ?_))))
 obtain ⟨r38, hr39⟩ : ∃ q, span_CheckKey p1 = q := ⟨_, rfl⟩
 obtain ⟨D33, HP34, ro35, bk36, rr37⟩ := Own.enter0 H30
 refine cl Try.call31 (span_CheckKey_ok _ _ p1 r38 HP34 hr39) ?_
 rintro _ w40 ⟨rfl, HQ41, hk43⟩
 have H42 := bk36 _ _ HQ41
 replace hk43 : ¬ (r38 = 0) ∨ (1 ≤ p1.length ∧ p1.length ≤ 12) := hk43
 refine Ar rfl (Mz rfl (fw (.bool (decide (¬ (r38 = 0)))) (Yl.bool (e := !(decide (r38 = 0))) yk decide_not.symm) (nt ?_)))
 by_cases h44 : r38 = 0
 refine jF (dF (not_not_intro h44)) (sk (sr (Mz rfl (Mz rfl ?_))))
 obtain ⟨r50, hr51⟩ : ∃ q, owner_place l0 p1 = q := ⟨_, rfl⟩
 obtain ⟨D45, HP46, ro47, bk48, rr49⟩ := Own.enter0 H42
 refine cl Try.call33 (owner_place_ok _ _ A0 l0.length c0 l0 p1 r50 HP46 (ro47 _ hx0) rfl (by omega) (by first | omega | (simp only [List.length_cons, List.length_nil]; omega)) hr51) ?_
 rintro _ w52 ⟨rfl, HQ53, hk55⟩
 have H54 := bk48 _ _ HQ53
 replace hk55 : 0 ≤ r50 ∧ r50 < ((l0.length : Nat) : Int) := hk55
 refine Az rfl (An rfl (rt (Fin.res (res2 rfl rfl rfl) ?_)))
 have H56 := H54.pk []
 have e : owner_Find l0 p1 = (r50, 0) := et (bnd_of hr27) (et (ip h32) (et (bnd_of hr39) (et (ip h44) (bnd_of hr51))))
 obtain ⟨rfl, rfl⟩ := pj2 (e.symm.trans hr)
 exact ⟨rfl, H56, (by omega), (by omega), (by omega)⟩
 refine jT (dT h44) (sr (Mz rfl (Az rfl (An rfl (rt (tR (Fin.res (res2 rfl rfl rfl) ?_)))))))
 have H57 := H42.pk []
 have e : owner_Find l0 p1 = (0, r38) := et (bnd_of hr27) (et (ip h32) (et (bnd_of hr39) (iN h44)))
 obtain ⟨rfl, rfl⟩ := pj2 (e.symm.trans hr)
 exact ⟨rfl, H57, (by omega), (by omega), (by omega)⟩
 refine jT (dT h32) (sr (Mz rfl (Az rfl (An rfl (rt (tR (Fin.res (res2 rfl rfl rfl) ?_)))))))
 have H58 := H30.pk []
 have e : owner_Find l0 p1 = (0, r26) := et (bnd_of hr27) (iN h32)
 obtain ⟨rfl, rfl⟩ := pj2 (e.symm.trans hr)
 exact ⟨rfl, H58, (by omega), (by omega), (by omega)⟩
def slices_Clone_api_Owner_api_Owner (l0 : List OwnerD) : (List OwnerD) :=
 l0
set_option maxRecDepth 100000 in
theorem slices_Clone_api_Owner_api_Owner_ok (w : World) (D : Nat → Prop) (A0 : Option Addr) (n0 c0 : Nat) (l0 : List OwnerD) (r0 : List OwnerD) (H : Own w D w []) (hx0 : Ro w D fun w' => Rds w' 2 A0 n0 (List.flatMap OwnerD.cells l0)) (hn0 : n0 = l0.length) (hl0 : l0.length * 24 ≤ 211106232532992) (hr : slices_Clone_api_Owner_api_Owner l0 = r0) :
    Calls Try.prog 43 #[.slice A0 n0 c0] w (Ret fun v w' => ∃ (B0 : Option Addr) (b0 : Nat), v = .slice B0 r0.length b0 ∧ Own w D w' [row B0 r0.length b0 (List.flatMap OwnerD.cells r0) 39 2]) := by
 subst hn0
 refine Calls.body (args := [.slice A0 l0.length c0]) Try.func43 rfl rfl rfl ?_
 show Wp _ _ _ [(0, .slice A0 l0.length c0)] _ _
 refine sr (An rfl (Wp.seq (sr (Mz rfl (fw (.bool (Option.isNone A0)) (Yl.sliceNil Try.underlying22 rfl rfl) (nt ?_))))))
 rcases Bool.eq_false_or_eq_true (Option.isNone A0) with h21 | h21
 obtain rfl : l0 = [] := rds_none (enc := OwnerD.cells) (H.ro hx0) h21
 refine jT h21 (sr (An rfl (rt (tR (rs ?_)))))
 have H22 : Own w D w [row none 0 0 (List.flatMap OwnerD.cells ([])) 39 2] := H.free (row_nil 39 2)
 have H23 := H22.pk [0]
 obtain rfl : _ = ([]) := hr.symm.trans rfl
 exact ⟨none, 0, rfl, H23⟩
 refine jF h21 (sk (sr ?_))
 refine nrw [] 39 2 0 H ?_
 intro A24 w25 H26
 replace H26 : Own w D w25 [row A24 0 0 (List.flatMap OwnerD.cells ([])) 39 2] := H26
 refine Mz rfl ?_
 refine WL.do rfl (Do.appendW (k := 0) (m := l0.length) (El22) H26 rfl rfl (src_of Try.underlying22 (H26.ro hx0) (flat_one OwnerD.one l0)) rfl (by omega) (s := l0.length) (by omega) rfl ?_)
 intro A27 c28 w29 H30
 refine An rfl (rt (rs ?_))
 have H31 := H30.pk [0]
 obtain rfl : _ = l0 := hr.symm.trans rfl
 exact ⟨A27, c28, rfl, H31⟩
def slices_Insert_api_Owner_api_Owner (l0 : List OwnerD) (p1 : Int) (x2 : OwnerD) : (List OwnerD) :=
 if ((Int.toNat p1 : Nat) : Int) = ((l0.length : Nat) : Int) then (l0 ++ [x2]) else (List.take (Int.toNat p1) l0 ++ (x2 :: List.drop (Int.toNat p1) l0))
set_option maxRecDepth 100000 in
theorem slices_Insert_api_Owner_api_Owner_ok (w : World) (D : Nat → Prop) (A0 : Option Addr) (n0 c0 : Nat) (l0 : List OwnerD) (p1 : Int) (A2 : Option Addr) (x2 : OwnerD) (r0 : List OwnerD) (H : Own w D w [row A0 n0 c0 (List.flatMap OwnerD.cells l0) 39 2, rowz A2 1 (List.flatMap OwnerD.cells ([x2])) 39 2]) (hn0 : n0 = l0.length) (hl0 : l0.length * 24 ≤ 211106232532992) (hh0 : 0 ≤ p1 ∧ p1 ≤ ((l0.length : Nat) : Int) ∧ (l0.length + 1) * 24 ≤ 211106232532992) (hr : slices_Insert_api_Owner_api_Owner l0 p1 x2 = r0) :
    Calls Try.prog 42 #[.slice A0 n0 c0, .int .i64 p1, .slice A2 1 1] w (Ret fun v w' => ∃ (B0 : Option Addr) (b0 : Nat), v = .slice B0 r0.length b0 ∧ Own w D w' [row B0 r0.length b0 (List.flatMap OwnerD.cells r0) 39 2] ∧ (r0.length = l0.length + 1)) := by
 subst hn0
 have hc0 := H.rowC (i := 0) rfl
 refine Calls.body (args := [.slice A0 l0.length c0, .int .i64 p1, .slice A2 1 1]) Try.func42 rfl rfl rfl ?_
 show Wp _ _ _ [(0, .slice A0 l0.length c0), (1, .int .i64 p1), (2, .slice A2 1 1)] _ _
 refine sr (Ar rfl (Mz rfl (fw (.int .i64 ((Int.toNat p1 : Nat) : Int)) (Yl.int (e := p1) (Yl.move rfl) (by omega)) (fw (.slice (cutA A0 (Int.toNat p1) 2 c0) (l0.length - (Int.toNat p1)) (c0 - (Int.toNat p1))) (Yl.cutFrom (El22) rfl rfl (by omega)) (ns (Mz rfl (Kz (.int .i64 1) (An rfl (Wp.seq (sr (Mz rfl (Kz (.bool false) (nt (jf (sk (sr (Mz rfl (Kz (.int .i64 ((l0.length : Nat) : Int)) (An rfl (Wp.seq (sr (fw (.int .i64 ((Int.toNat p1 : Nat) : Int)) (Yl.int (e := p1) (Yl.move rfl) (by omega)) ?_))))))))))))))))))))))
 refine Mz rfl (Kz (.bool (decide (((Int.toNat p1 : Nat) : Int) = ((l0.length : Nat) : Int)))) (nt ?_))
 by_cases h21 : ((Int.toNat p1 : Nat) : Int) = ((l0.length : Nat) : Int)
 refine jT (dT h21) (sr (Mz rfl (Mz rfl ?_)))
 refine WL.do rfl (Do.appendW (k := l0.length) (m := 1) (El22) H rfl rfl (src_of Try.underlying22 (own_rd H (i := 1) rfl rowz_rds) (flat_one OwnerD.one ([x2]))) rfl (by omega) (s := List.length (l0 ++ [x2])) (by first | omega | (simp only [List.length_append, List.length_cons, List.length_nil] <;> omega)) (List.flatMap_append).symm ?_)
 intro A22 c23 w24 H25
 have hl26 : List.length (l0 ++ [x2]) = l0.length + 1 := by simp only [List.length_append, List.length_cons, List.length_nil]
 refine An rfl (rt (tR (rs ?_)))
 have H27 := H25.pk [0]
 obtain rfl : _ = (l0 ++ [x2]) := hr.symm.trans (ip h21)
 exact ⟨A22, c23, rfl, H27, (by omega)⟩
 refine jF (dF h21) (sk (Wp.seq (sr (Mz rfl (Mz rfl (fw (.int .i64 ((l0.length + 1 : Nat) : Int)) (Yl.int (e := IntKind.i64.wrap (((l0.length : Nat) : Int) + 1)) yk (by rw [IntWalk.i64_in _ (by omega)]; omega)) (Mz rfl (Kz (.int .i64 ((c0 : Nat) : Int)) (Kz (.bool (decide (((l0.length + 1 : Nat) : Int) > ((c0 : Nat) : Int)))) (nt ?_))))))))))
 by_cases h28 : ((l0.length + 1 : Nat) : Int) > ((c0 : Nat) : Int)
 refine jT (dT h28) (sr (Mz rfl (fw (.int .i64 ((Int.toNat p1 : Nat) : Int)) (Yl.int (e := p1) (Yl.move rfl) (by omega)) (fw (.slice A0 (Int.toNat p1) c0) (Yl.cutTo (El22) rfl rfl (by omega)) (Mz rfl (Mz rfl (fw (.int .i64 ((l0.length + 1 : Nat) : Int)) (Yl.int (e := IntKind.i64.wrap (((l0.length : Nat) : Int) + 1)) yk (by rw [IntWalk.i64_in _ (by omega)]; omega)) (fw (.int .i64 ((Int.toNat p1 : Nat) : Int)) (Yl.int (e := p1) (Yl.move rfl) (by omega)) (fw (.int .i64 (((l0.length + 1) - (Int.toNat p1) : Nat) : Int)) (Yl.int (e := IntKind.i64.wrap (((l0.length + 1 : Nat) : Int) - ((Int.toNat p1 : Nat) : Int))) yk (by rw [IntWalk.i64_in _ (by omega)]; omega)) ?_)))))))))
 have hl29 : List.length (List.take (Int.toNat p1) l0 ++ (x2 :: List.drop (Int.toNat p1) l0)) = l0.length + 1 := by simp only [List.length_append, List.length_take, List.length_cons, List.length_drop]; omega
 refine WL.do rfl (Do.appendZeros (k := Int.toNat p1) (m := (l0.length + 1) - (Int.toNat p1)) (El22) Try.underlying3 H rfl rfl (by omega) (by omega) (by omega) rfl (by omega) (s := List.length (List.take (Int.toNat p1) l0 ++ (x2 :: List.drop (Int.toNat p1) l0))) (by omega) ?_)
 intro A30 c31 zs32 w34 hz33 H35
 have hle36 := H35.rowLe (i := 0) rfl
 refine Ar rfl (Mz rfl (fw (.int .i64 ((Int.toNat p1 : Nat) : Int)) (Yl.int (e := p1) (Yl.move rfl) (by omega)) (fw (.slice (cutA A30 (Int.toNat p1) 2 c31) ((List.length (List.take (Int.toNat p1) l0 ++ (x2 :: List.drop (Int.toNat p1) l0))) - (Int.toNat p1)) (c31 - (Int.toNat p1))) (Yl.cutFrom (El22) rfl rfl (by omega)) (Mz rfl ?_))))
 refine WL.do rfl (Do.copyT (lo := Int.toNat p1) (k := 1) (El22) H35 rfl (fun _ => cutA_pos ((H35.rds (i := 0) rfl).isSome (by omega)) (by omega)) (by omega) rfl (own_rd H35 (i := 2) rfl rowz_rds) (by omega) (fun u hu => flat_one OwnerD.one _ u (List.mem_of_mem_take hu)) rfl ?_)
 intro w37 H38
 refine nt (Wp.seq ?_)
 have H40 := H38.drew
 refine Wp.drawnX [8] (fun W => ∃ L', Own w D W ([row A30 (List.length (List.take (Int.toNat p1) l0 ++ (x2 :: List.drop (Int.toNat p1) l0))) c31 (put ((List.flatMap OwnerD.cells l0).take ((Int.toNat p1) * 2) ++ zs32) ((Int.toNat p1) * 2) (List.take (1 * 2) (List.flatMap OwnerD.cells [x2]))) 39 2, row A0 l0.length c0 (List.flatMap OwnerD.cells l0) 39 2, rowz A2 1 (List.flatMap OwnerD.cells ([x2])) 39 2] ++ L')) (by kernel_rfl) (by kernel_rfl) (NoP.then (NoP.then NoP.base)) ⟨_, H40⟩ ?_
 revert H40
 generalize World.drew w37 = w39
 intro H40
 refine GX.take (v := .slice A30 (List.length (List.take (Int.toNat p1) l0 ++ (x2 :: List.drop (Int.toNat p1) l0))) c31) (rs := [[4]]) 0 rfl (by kernel_rfl) (fun _ _ => Yl.move rfl) (GX.take (v := .int .i64 ((Int.toNat p1 : Nat) : Int)) (rs := [[4, 3]]) 1 rfl (by kernel_rfl) (fun _ _ => Yl.int (e := p1) (Yl.move rfl) (by omega)) (GX.take (v := .int .i64 1) (rs := [[4, 3]]) 2 rfl (by kernel_rfl) (fun _ _ => Yl.move rfl) (GX.take (v := .int .i64 ((Int.toNat p1 + 1 : Nat) : Int)) (rs := [[4]]) 3 rfl (by kernel_rfl) (fun _ _ => Yl.int (e := IntKind.i64.wrap (((Int.toNat p1 : Nat) : Int) + 1)) yk (by rw [IntWalk.i64_in _ (by omega)]; omega)) (GX.take (v := .slice (cutA A30 (Int.toNat p1 + 1) 2 c31) ((List.length (List.take (Int.toNat p1) l0 ++ (x2 :: List.drop (Int.toNat p1) l0))) - (Int.toNat p1 + 1)) (c31 - (Int.toNat p1 + 1))) (rs := [[]]) 4 rfl (by kernel_rfl) (fun _ _ => Yl.cutFrom (El22) rfl rfl (by omega)) (GX.take (v := .slice A0 l0.length c0) (rs := [[7]]) 5 rfl (by kernel_rfl) (fun _ _ => Yl.move rfl) (GX.take (v := .int .i64 ((Int.toNat p1 : Nat) : Int)) (rs := [[7]]) 6 rfl (by kernel_rfl) (fun _ _ => Yl.int (e := p1) (Yl.move rfl) (by omega)) (GX.take (v := .slice (cutA A0 (Int.toNat p1) 2 c0) (l0.length - (Int.toNat p1)) (c0 - (Int.toNat p1))) (rs := [[]]) 7 rfl (by kernel_rfl) (fun _ _ => Yl.cutFrom (El22) rfl rfl (by omega)) ?_)))))))
 refine GX.do 8 rfl (by kernel_rfl) (Do.copyT (lo := Int.toNat p1 + 1) (k := l0.length - Int.toNat p1) (El22) H40 rfl (fun _ => cutA_pos ((H40.rds (i := 0) rfl).isSome (by omega)) (by omega)) (by omega) rfl (Rds.fromE (lo := Int.toNat p1) OwnerD.len (H40.rds (i := 1) rfl) (by omega) (by omega) (by decide)) (by omega) (fun u hu => flat_one OwnerD.one _ u (List.mem_of_mem_take hu)) rfl ?_)
 intro w41 H42
 refine ⟨.inl (by kernel_rfl), ?_⟩
 refine GX.done (by kernel_rfl) (Fin.then (sr (Mz rfl (An rfl (rt (tR (rs ?_)))))))
 have H43 : Own w D w41 [row A30 (List.length (List.take (Int.toNat p1) l0 ++ (x2 :: List.drop (Int.toNat p1) l0))) c31 (List.flatMap OwnerD.cells (List.take (Int.toNat p1) l0 ++ (x2 :: List.drop (Int.toNat p1) l0))) 39 2, row A0 l0.length c0 (List.flatMap OwnerD.cells l0) 39 2, rowz A2 1 (List.flatMap OwnerD.cells ([x2])) 39 2] := H42.rowPart (by omega) (ins_grow (l := l0) (k2 := l0.length - Int.toNat p1) OwnerD.len (by omega) hz33 rfl rfl (by omega))
 have H44 := H43.pk [0]
 obtain rfl : _ = (List.take (Int.toNat p1) l0 ++ (x2 :: List.drop (Int.toNat p1) l0)) := hr.symm.trans (iN h21)
 exact ⟨A30, c31, rfl, H44, (by omega)⟩
 refine jF (dF h28) (sk (sr ?_))
 have hl45 : List.length (List.take (Int.toNat p1) l0 ++ (x2 :: List.drop (Int.toNat p1) l0)) = l0.length + 1 := by simp only [List.length_append, List.length_take, List.length_cons, List.length_drop]; omega
 obtain ⟨sp46, hsp47, H48⟩ := H.rowFull
 refine Mz rfl (Mz rfl (Mz rfl (fw (.int .i64 ((l0.length + 1 : Nat) : Int)) (Yl.int (e := IntKind.i64.wrap (((l0.length : Nat) : Int) + 1)) yk (by rw [IntWalk.i64_in _ (by omega)]; omega)) (fw (.slice A0 (List.length (List.take (Int.toNat p1) l0 ++ (x2 :: List.drop (Int.toNat p1) l0))) c0) (Yl.to (Yl.cutTo (El22) rfl rfl (by omega)) (congrArg (fun q => Value.slice A0 q c0) hl45.symm)) (An rfl (Wp.seq (sr (Mz rfl (Mz rfl (fw (.int .i64 ((Int.toNat p1 : Nat) : Int)) (Yl.int (e := p1) (Yl.move rfl) (by omega)) (Mz rfl (fw (.int .i64 ((Int.toNat p1 + 1 : Nat) : Int)) (Yl.int (e := IntKind.i64.wrap (((Int.toNat p1 : Nat) : Int) + 1)) yk (by rw [IntWalk.i64_in _ (by omega)]; omega)) (fw (.slice (cutA A0 (Int.toNat p1 + 1) 2 c0) ((List.length (List.take (Int.toNat p1) l0 ++ (x2 :: List.drop (Int.toNat p1) l0))) - (Int.toNat p1 + 1)) (c0 - (Int.toNat p1 + 1))) (Yl.cutFrom (El22) rfl rfl (by omega)) ?_)))))))))))))
 have H49 := H48.pk [1, 0]
 refine fw (.bool false) (Yl.overlapsNo (lo := Int.toNat p1 + 1) (run_callFunc_extern Try.func59 (by kernel_rfl) (by kernel_rfl) (by kernel_rfl) (e := Extern.SlicesOverlaps.overlaps #[22, 22] #[4]) (by kernel_rfl)) Try.underlying22 Try.sizeOf39 H49 (by decide) (by omega) rfl (cutA_pos ((H49.rds (i := 1) rfl).isSome (by omega)) (by omega))) (Kz (.bool true) (nt (jt (Wp.seq ?_))))
 have H51 := H49.drew
 refine Wp.drawnX [8] (fun W => ∃ L', Own w D W ([rowz A2 1 (List.flatMap OwnerD.cells ([x2])) 39 2, row A0 c0 c0 ((List.flatMap OwnerD.cells l0) ++ sp46) 39 2] ++ L')) (by kernel_rfl) (by kernel_rfl) (NoP.then (NoP.then NoP.base)) ⟨_, H51⟩ ?_
 revert H51
 generalize World.drew w = w50
 intro H51
 refine GX.take (v := .slice A0 (List.length (List.take (Int.toNat p1) l0 ++ (x2 :: List.drop (Int.toNat p1) l0))) c0) (rs := [[4]]) 0 rfl (by kernel_rfl) (fun _ _ => Yl.move rfl) (GX.take (v := .int .i64 ((Int.toNat p1 : Nat) : Int)) (rs := [[4, 3]]) 1 rfl (by kernel_rfl) (fun _ _ => Yl.int (e := p1) (Yl.move rfl) (by omega)) (GX.take (v := .int .i64 1) (rs := [[4, 3]]) 2 rfl (by kernel_rfl) (fun _ _ => Yl.move rfl) (GX.take (v := .int .i64 ((Int.toNat p1 + 1 : Nat) : Int)) (rs := [[4]]) 3 rfl (by kernel_rfl) (fun _ _ => Yl.int (e := IntKind.i64.wrap (((Int.toNat p1 : Nat) : Int) + 1)) yk (by rw [IntWalk.i64_in _ (by omega)]; omega)) (GX.take (v := .slice (cutA A0 (Int.toNat p1 + 1) 2 c0) ((List.length (List.take (Int.toNat p1) l0 ++ (x2 :: List.drop (Int.toNat p1) l0))) - (Int.toNat p1 + 1)) (c0 - (Int.toNat p1 + 1))) (rs := [[]]) 4 rfl (by kernel_rfl) (fun _ _ => Yl.cutFrom (El22) rfl rfl (by omega)) (GX.take (v := .slice A0 (List.length (List.take (Int.toNat p1) l0 ++ (x2 :: List.drop (Int.toNat p1) l0))) c0) (rs := [[7]]) 5 rfl (by kernel_rfl) (fun _ _ => Yl.move rfl) (GX.take (v := .int .i64 ((Int.toNat p1 : Nat) : Int)) (rs := [[7]]) 6 rfl (by kernel_rfl) (fun _ _ => Yl.int (e := p1) (Yl.move rfl) (by omega)) (GX.take (v := .slice (cutA A0 (Int.toNat p1) 2 c0) ((List.length (List.take (Int.toNat p1) l0 ++ (x2 :: List.drop (Int.toNat p1) l0))) - (Int.toNat p1)) (c0 - (Int.toNat p1))) (rs := [[]]) 7 rfl (by kernel_rfl) (fun _ _ => Yl.cutFrom (El22) rfl rfl (by omega)) ?_)))))))
 have H52 := H51.pk [1, 0]
 refine GX.do 8 rfl (by kernel_rfl) (Do.copyT (lo := Int.toNat p1 + 1) (k := l0.length - Int.toNat p1) (El22) H52 rfl (fun _ => cutA_pos ((H52.rds (i := 0) rfl).isSome (by omega)) (by omega)) (by omega) rfl (Rds.cut (lo := Int.toNat p1) (hi := List.length (List.take (Int.toNat p1) l0 ++ (x2 :: List.drop (Int.toNat p1) l0))) (H52.rds (i := 0) rfl) (by omega) (by omega) (by omega)) (by omega) (fun u hu => flat_one OwnerD.one _ u (by rw [ins_news OwnerD.len (by omega) rfl (by omega)] at hu; exact hu)) rfl ?_)
 intro w53 H54
 refine ⟨.inl (by kernel_rfl), ?_⟩
 refine GX.done (by kernel_rfl) (Fin.then (sr (Mz rfl (fw (.int .i64 ((Int.toNat p1 : Nat) : Int)) (Yl.int (e := p1) (Yl.move rfl) (by omega)) (fw (.slice (cutA A0 (Int.toNat p1) 2 c0) ((List.length (List.take (Int.toNat p1) l0 ++ (x2 :: List.drop (Int.toNat p1) l0))) - (Int.toNat p1)) (c0 - (Int.toNat p1))) (Yl.cutFrom (El22) rfl rfl (by omega)) (Mz rfl ?_))))))
 refine WL.do rfl (Do.copyT (lo := Int.toNat p1) (k := 1) (El22) H54 rfl (fun _ => cutA_pos ((H54.rds (i := 0) rfl).isSome (by omega)) (by omega)) (by omega) rfl (own_rd H54 (i := 1) rfl rowz_rds) (by omega) (fun u hu => flat_one OwnerD.one _ u (List.mem_of_mem_take hu)) rfl ?_)
 intro w55 H56
 refine ns (Mz rfl (An rfl (rt (tR (rs ?_)))))
 have H57 : Own w D w55 [row A0 (List.length (List.take (Int.toNat p1) l0 ++ (x2 :: List.drop (Int.toNat p1) l0))) c0 (List.flatMap OwnerD.cells (List.take (Int.toNat p1) l0 ++ (x2 :: List.drop (Int.toNat p1) l0))) 39 2, rowz A2 1 (List.flatMap OwnerD.cells ([x2])) 39 2] := H56.rowPart (by omega) (ins_room (l := l0) (m := (List.length (List.take (Int.toNat p1) l0 ++ (x2 :: List.drop (Int.toNat p1) l0))) - Int.toNat p1) (k2 := l0.length - Int.toNat p1) OwnerD.len (by omega) (by rw [hsp47]; exact Nat.le_mul_of_pos_left 2 (by omega)) rfl rfl (by omega) (by omega))
 have H58 := H57.pk [0]
 obtain rfl : _ = (List.take (Int.toNat p1) l0 ++ (x2 :: List.drop (Int.toNat p1) l0)) := hr.symm.trans (iN h21)
 exact ⟨A0, c0, rfl, H58, (by omega)⟩
def owner_Split (l0 : List OwnerD) (p1 : List UInt8) : (List OwnerD) × Int :=
 bnd (owner_Find l0 p1) fun yr26 => if yr26.2 = 0 then bnd (List.getD l0 (Int.toNat yr26.1) default) fun yx36 => if yx36.xLo = p1 then ([], 6) else if ((l0.length : Nat) : Int) = 6 then ([], 3) else bnd (slices_Insert_api_Owner_api_Owner l0 (yr26.1 + 1) (OwnerD.mk p1 yx36.xShard)) fun yr95 => (yr95, 0) else ([], yr26.2)
set_option maxRecDepth 100000 in
theorem owner_Split_ok (w : World) (D : Nat → Prop) (A0 : Option Addr) (n0 c0 : Nat) (l0 : List OwnerD) (p1 : List UInt8) (r0 : List OwnerD) (r1 : Int) (H : Own w D w []) (hx0 : Ro w D fun w' => Rds w' 2 A0 n0 (List.flatMap OwnerD.cells l0)) (hn0 : n0 = l0.length) (hl0 : l0.length * 24 ≤ 211106232532992) (hr : owner_Split l0 p1 = (r0, r1)) :
    Calls Try.prog 18 #[.slice A0 n0 c0, .string ⟨List.toArray p1⟩] w (Ret fun v w' => ∃ (B0 : Option Addr) (b0 : Nat), v = .tuple #[.slice B0 r0.length b0, .int .i64 r1] ∧ Own w D w' [row B0 r0.length b0 (List.flatMap OwnerD.cells r0) 39 2] ∧ (r0.length ≤ 6) ∧ (¬ (r1 = 0) ∨ owner_Check l0 = 0)) := by
 subst hn0
 refine Calls.body (args := [.slice A0 l0.length c0, .string ⟨List.toArray p1⟩]) Try.func18 rfl rfl rfl ?_
 show Wp _ _ _ [(0, .slice A0 l0.length c0), (1, .string ⟨List.toArray p1⟩)] _ _
 refine sr (Az rfl (Ar rfl (Mz rfl (Mz rfl ?_))))
 obtain ⟨⟨r26, r27⟩, hr28⟩ : ∃ q : Int × Int, owner_Find l0 p1 = q := ⟨_, rfl⟩
 obtain ⟨D21, HP22, ro23, bk24, rr25⟩ := Own.enter0 H
 refine cl Try.call10 (owner_Find_ok _ _ A0 l0.length c0 l0 p1 r26 r27 HP22 (ro23 _ hx0) rfl (by omega) hr28) ?_
 rintro _ w29 ⟨rfl, HQ30, hk32, hk33, hk34⟩
 have H31 := bk24 _ _ HQ30
 replace hk32 : ¬ (r27 = 0) ∨ (0 ≤ r26 ∧ r26 < ((l0.length : Nat) : Int) ∧ l0.length ≤ 6) := hk32
 replace hk33 : ¬ (owner_Check l0 = 0) ∨ p1.length < 1 ∨ p1.length > 12 ∨ (0 ≤ r26 ∧ r26 < ((l0.length : Nat) : Int)) := hk33
 replace hk34 : ¬ (r27 = 0) ∨ owner_Check l0 = 0 := hk34
 refine Mz rfl (Kz (.int .i64 r26) (Kz (.int .i64 r27) (Az rfl (An rfl (Wp.seq (sr (Mz rfl (fw (.bool (decide (¬ (r27 = 0)))) (Yl.bool (e := !(decide (r27 = 0))) yk decide_not.symm) (nt ?_)))))))))
 by_cases h35 : r27 = 0
 refine jF (dF (not_not_intro h35)) (sk (Wp.seq (sr (Mz rfl (fw (.int .i64 ((Int.toNat r26 : Nat) : Int)) (Yl.int (e := r26) (Yl.move rfl) (by omega)) ?_)))))
 obtain ⟨x36, hx37⟩ := rds_at (ls := l0) (i := Int.toNat r26) OwnerD.len (by decide) (H31.ro hx0) (by first | omega | (simp; done) | (simp; omega))
 refine fw (.pointer (some ⟨ab A0, ao A0 + (Int.toNat r26) * 2, none⟩)) (Yl.indexAddr (El22) rfl rfl ((H31.ro hx0).addr (i := Int.toNat r26) (by omega)) (by omega)) (Kz (.pointer (some ⟨ab A0, ao A0 + (Int.toNat r26) * 2, none⟩)) (fw (.string ⟨List.toArray x36.xLo⟩) (Yl.load rfl (Lds.one Try.isAgg9 (((H31.ro hx0).elem OwnerD.len hx37 (by decide)).at_ (k := 0) rfl))) (Mz rfl (fw (.bool (decide (x36.xLo = p1))) (Yl.strEq rfl rfl) (nt ?_)))))
 by_cases h38 : x36.xLo = p1
 refine jT (dT h38) (sr (Az rfl (An rfl (rt (tR (Fin.res (res2 rfl rfl rfl) ?_))))))
 have H39 : Own w D w29 [row none 0 0 (List.flatMap OwnerD.cells ([])) 39 2] := H31.free (row_nil 39 2)
 have H40 := H39.pk [0]
 have e : owner_Split l0 p1 = ([], 6) := et (bnd_of hr28) (et (ip h35) (et (bnd_of (getD_of hx37)) (ip h38)))
 obtain ⟨rfl, rfl⟩ := pj2 (e.symm.trans hr)
 exact ⟨none, 0, rfl, H40, (by first | omega | exact Nat.zero_le _ | (simp only [List.length_set]; omega)), (by omega)⟩
 refine jF (dF h38) (sk (Wp.seq (sr (Mz rfl (Kz (.int .i64 ((l0.length : Nat) : Int)) (Kz (.bool (decide (((l0.length : Nat) : Int) = 6))) (nt ?_)))))))
 by_cases h41 : ((l0.length : Nat) : Int) = 6
 refine jT (dT h41) (sr (Az rfl (An rfl (rt (tR (Fin.res (res2 rfl rfl rfl) ?_))))))
 have H42 : Own w D w29 [row none 0 0 (List.flatMap OwnerD.cells ([])) 39 2] := H31.free (row_nil 39 2)
 have H43 := H42.pk [0]
 have e : owner_Split l0 p1 = ([], 3) := et (bnd_of hr28) (et (ip h35) (et (bnd_of (getD_of hx37)) (et (iN h38) (ip h41))))
 obtain ⟨rfl, rfl⟩ := pj2 (e.symm.trans hr)
 exact ⟨none, 0, rfl, H43, (by first | omega | exact Nat.zero_le _ | (simp only [List.length_set]; omega)), (by omega)⟩
 refine jF (dF h41) (sk (Wp.seq ?_))
 have H45 := H31.drew
 refine Wp.drawnX [] (fun W => ∃ L', Own w D W ([] ++ L')) (by kernel_rfl) (by kernel_rfl) (NoP.then NoP.base) ⟨_, H45⟩ ?_
 revert H45
 generalize World.drew w29 = w44
 intro H45
 refine GX.take (v := .slice A0 l0.length c0) (rs := []) 0 rfl (by kernel_rfl) (fun _ _ => Yl.move rfl) (GX.take (v := .int .i64 r26) (rs := []) 2 rfl (by kernel_rfl) (fun _ _ => Yl.move rfl) (GX.take (v := .int .i64 (r26 + 1)) (rs := []) 3 rfl (by kernel_rfl) (fun _ _ => Yl.int (e := IntKind.i64.wrap (r26 + 1)) yk (by rw [IntWalk.i64_in _ (by omega)])) (GX.take (v := .string ⟨List.toArray p1⟩) (rs := []) 4 rfl (by kernel_rfl) (fun _ _ => Yl.move rfl) (GX.take (v := .slice A0 l0.length c0) (rs := []) 5 rfl (by kernel_rfl) (fun _ _ => Yl.move rfl) (GX.take (v := .int .i64 ((Int.toNat r26 : Nat) : Int)) (rs := []) 6 rfl (by kernel_rfl) (fun _ _ => Yl.int (e := r26) (Yl.move rfl) (by omega)) (GX.take (v := .pointer (some ⟨ab A0, ao A0 + (Int.toNat r26) * 2, none⟩)) (rs := []) 7 rfl (by kernel_rfl) (fun _ ⟨_, H9⟩ => Yl.indexAddr (El22) rfl rfl ((H9.ro hx0).addr (i := Int.toNat r26) (by omega)) (by omega)) (GX.take (v := .pointer (some ⟨ab A0, ao A0 + (Int.toNat r26) * 2 + 1, none⟩)) (rs := []) 8 rfl (by kernel_rfl) (fun _ _ => yk) (GX.take (v := .int .i64 x36.xShard) (rs := []) 9 rfl (by kernel_rfl) (fun _ ⟨_, H9⟩ => Yl.load rfl (Lds.one Try.isAgg3 (((H9.ro hx0).elem OwnerD.len hx37 (by decide)).at_ (k := 1) rfl))) (GX.take (v := .agg #[.string ⟨List.toArray p1⟩, .int .i64 x36.xShard]) (rs := []) 10 rfl (by kernel_rfl) (fun _ _ => yk) ?_)))))))))
 refine GX.any2 1 11 (by kernel_rfl) ?_ ?_
 obtain ⟨D46, HP47, ro48, bk49, rr50⟩ := Own.enter0 H45
 refine GY.do 1 rfl (by kernel_rfl) (Do.call Try.call43 rfl (slices_Clone_api_Owner_api_Owner_ok _ _ A0 l0.length c0 l0 l0 HP47 (ro48 _ hx0) rfl (by omega) rfl) ?_)
 rintro _ w51 ⟨A54, c55, rfl, HQ52⟩
 have H53 := bk49 _ _ HQ52
 have hb56 := H53.rowC (i := 0) rfl
 refine ⟨.inr ⟨_, H53⟩, ?_⟩
 refine GX.do 11 rfl (by kernel_rfl) (Do.newRowZ (cs := [.string ⟨List.toArray p1⟩, .int .i64 x36.xShard]) (t := 39) (sz := 2) (m := 1) H53 rfl rfl (fun _ => by kernel_rfl) rfl ?_)
 intro A57 w58 H59
 replace H59 : Own w D w58 [rowz A57 1 (List.flatMap OwnerD.cells ([(OwnerD.mk p1 x36.xShard)])) 39 2, row A54 l0.length c55 (List.flatMap OwnerD.cells l0) 39 2] := H59
 refine ⟨.inr ⟨_, H59⟩, ?_⟩
 have H60 := H59.pk [1, 0]
 obtain ⟨r66, hr67⟩ : ∃ q, slices_Insert_api_Owner_api_Owner l0 (r26 + 1) (OwnerD.mk p1 x36.xShard) = q := ⟨_, rfl⟩
 obtain ⟨D61, HP62, ro63, bk64, rr65⟩ := Own.enter2 H60
 refine GX.do 12 rfl (by kernel_rfl) (Do.call Try.call42 rfl (slices_Insert_api_Owner_api_Owner_ok _ _ A54 l0.length c55 l0 (r26 + 1) A57 (OwnerD.mk p1 x36.xShard) r66 HP62 rfl (by omega) (by omega) hr67) ?_)
 rintro _ w68 ⟨A71, c72, rfl, HQ69, hk73⟩
 have H70 := bk64 _ _ HQ69
 have hb74 := H70.rowC (i := 0) rfl
 replace hk73 : r66.length = l0.length + 1 := hk73
 refine ⟨.inr ⟨_, H70⟩, ?_⟩
 refine GX.take (v := .slice A71 r66.length c72) (rs := []) 13 rfl (by kernel_rfl) (fun _ _ => Yl.assign rfl) (GX.take (v := .int .i64 0) (rs := []) 14 rfl (by kernel_rfl) (fun _ _ => Yl.assign rfl) (GX.done (by kernel_rfl) (Fin.then (rt (Fin.res (res2 rfl rfl rfl) ?_)))))
 have H75 := H70.pk [0]
 have e : owner_Split l0 p1 = (r66, 0) := et (bnd_of hr28) (et (ip h35) (et (bnd_of (getD_of hx37)) (et (iN h38) (et (iN h41) (bnd_of hr67)))))
 obtain ⟨rfl, rfl⟩ := pj2 (e.symm.trans hr)
 exact ⟨A71, c72, rfl, H75, (by first | omega | exact Nat.zero_le _ | (simp only [List.length_set]; omega)), (by omega)⟩
 refine GY.do 11 rfl (by kernel_rfl) (Do.newRowZ (cs := [.string ⟨List.toArray p1⟩, .int .i64 x36.xShard]) (t := 39) (sz := 2) (m := 1) H45 rfl rfl (fun _ => by kernel_rfl) rfl ?_)
 intro A76 w77 H78
 replace H78 : Own w D w77 [rowz A76 1 (List.flatMap OwnerD.cells ([(OwnerD.mk p1 x36.xShard)])) 39 2] := H78
 refine ⟨.inr ⟨_, H78⟩, ?_⟩
 obtain ⟨D79, HP80, ro81, bk82, rr83⟩ := Own.enter0 H78
 refine GX.do 1 rfl (by kernel_rfl) (Do.call Try.call43 rfl (slices_Clone_api_Owner_api_Owner_ok _ _ A0 l0.length c0 l0 l0 HP80 (ro81 _ hx0) rfl (by omega) rfl) ?_)
 rintro _ w84 ⟨A87, c88, rfl, HQ85⟩
 have H86 := bk82 _ _ HQ85
 have hb89 := H86.rowC (i := 0) rfl
 refine ⟨.inr ⟨_, H86⟩, ?_⟩
 obtain ⟨r95, hr96⟩ : ∃ q, slices_Insert_api_Owner_api_Owner l0 (r26 + 1) (OwnerD.mk p1 x36.xShard) = q := ⟨_, rfl⟩
 obtain ⟨D90, HP91, ro92, bk93, rr94⟩ := Own.enter2 H86
 refine GX.do 12 rfl (by kernel_rfl) (Do.call Try.call42 rfl (slices_Insert_api_Owner_api_Owner_ok _ _ A87 l0.length c88 l0 (r26 + 1) A76 (OwnerD.mk p1 x36.xShard) r95 HP91 rfl (by omega) (by omega) hr96) ?_)
 rintro _ w97 ⟨A100, c101, rfl, HQ98, hk102⟩
 have H99 := bk93 _ _ HQ98
 have hb103 := H99.rowC (i := 0) rfl
 replace hk102 : r95.length = l0.length + 1 := hk102
 refine ⟨.inr ⟨_, H99⟩, ?_⟩
 refine GX.take (v := .slice A100 r95.length c101) (rs := []) 13 rfl (by kernel_rfl) (fun _ _ => Yl.assign rfl) (GX.take (v := .int .i64 0) (rs := []) 14 rfl (by kernel_rfl) (fun _ _ => Yl.assign rfl) (GX.done (by kernel_rfl) (Fin.then (rt (Fin.res (res2 rfl rfl rfl) ?_)))))
 have H104 := H99.pk [0]
 have e : owner_Split l0 p1 = (r95, 0) := et (bnd_of hr28) (et (ip h35) (et (bnd_of (getD_of hx37)) (et (iN h38) (et (iN h41) (bnd_of hr96)))))
 obtain ⟨rfl, rfl⟩ := pj2 (e.symm.trans hr)
 exact ⟨A100, c101, rfl, H104, (by first | omega | exact Nat.zero_le _ | (simp only [List.length_set]; omega)), (by omega)⟩
 refine jT (dT h35) (sr (Mz rfl (Az rfl (An rfl (rt (tR (Fin.res (res2 rfl rfl rfl) ?_)))))))
 have H105 : Own w D w29 [row none 0 0 (List.flatMap OwnerD.cells ([])) 39 2] := H31.free (row_nil 39 2)
 have H106 := H105.pk [0]
 have e : owner_Split l0 p1 = ([], r27) := et (bnd_of hr28) (iN h35)
 obtain ⟨rfl, rfl⟩ := pj2 (e.symm.trans hr)
 exact ⟨none, 0, rfl, H106, (by first | omega | exact Nat.zero_le _ | (simp only [List.length_set]; omega)), (by omega)⟩
def span_lesserHi (p0 : List UInt8) (p1 : List UInt8) : (List UInt8) :=
 if p0 = ([]) then p1 else if p1 ≠ ([]) then if p1 < p0 then p1 else p0 else p0
set_option maxRecDepth 100000 in
theorem span_lesserHi_ok (w : World) (D : Nat → Prop) (p0 : List UInt8) (p1 : List UInt8) (r0 : List UInt8) (H : Own w D w [])  (hr : span_lesserHi p0 p1 = r0) :
    Calls Try.prog 82 #[.string ⟨List.toArray p0⟩, .string ⟨List.toArray p1⟩] w (Ret fun v w' => v = .string ⟨List.toArray r0⟩ ∧ Own w D w' []) := by
 refine Calls.body (args := [.string ⟨List.toArray p0⟩, .string ⟨List.toArray p1⟩]) Try.func82 rfl rfl rfl ?_
 show Wp _ _ _ [(0, .string ⟨List.toArray p0⟩), (1, .string ⟨List.toArray p1⟩)] _ _
 refine sr (An rfl (Wp.seq (sr (Mz rfl (fw (.bool (decide (p0 = ([])))) (Yl.strEq rfl rfl) (Mz rfl ?_))))))
 by_cases h21 : p0 = ([])
 refine Sz (dT h21) (Sz (dT h21) (Sz (dT h21) (WL.skipU rfl rfl rfl (WL.skipU rfl rfl rfl (WL.skipU rfl rfl rfl (Sz (dT h21) (fw (.bool true) (Yl.pickT rfl (dT h21) rfl) (nt (jt (sr (Mz rfl (An rfl (rt (tR (rs ?_)))))))))))))))
 have H22 : Own w D w [] := H.pk []
 obtain rfl : _ = p1 := hr.symm.trans (ip h21)
 exact ⟨rfl, H22⟩
 refine gw (.string ⟨List.toArray p1⟩) (dF h21) (Yl.move rfl) (gw (.bool (decide (p1 ≠ ([])))) (dF h21) (Yl.strNe rfl rfl) (gw (.bool (decide (p1 ≠ ([])))) (dF h21) (Yl.move rfl) ?_))
 by_cases h23 : p1 ≠ ([])
 refine gw (.string ⟨List.toArray p1⟩) (dT h23) (Yl.move rfl) (gw (.string ⟨List.toArray p0⟩) (dT h23) (Yl.move rfl) (gw (.bool (decide (p1 < p0))) (dT h23) (Yl.bool (e := Op.bytesLess p1 p0) (Yl.strLt rfl rfl) (bl_lt _ _)) (gw (.bool (decide (p1 < p0))) (dF h21) (Yl.pickT rfl (dT h23) rfl) (fw (.bool (decide (p1 < p0))) (Yl.pickF rfl (dF h21) rfl) (nt ?_)))))
 by_cases h24 : p1 < p0
 refine jT (dT h24) (sr (Mz rfl (An rfl (rt (tR (rs ?_))))))
 have H25 : Own w D w [] := H.pk []
 obtain rfl : _ = p1 := hr.symm.trans (et (iN h21) (et (ip h23) (ip h24)))
 exact ⟨rfl, H25⟩
 refine jF (dF h24) (sk (sr (Mz rfl (An rfl (rt (rs ?_))))))
 have H26 : Own w D w [] := H.pk []
 obtain rfl : _ = p0 := hr.symm.trans (et (iN h21) (et (ip h23) (iN h24)))
 exact ⟨rfl, H26⟩
 refine Sz (dF h23) (Sz (dF h23) (Sz (dF h23) (gw (.bool false) (dF h21) (Yl.pickF rfl (dF h23) rfl) (fw (.bool false) (Yl.pickF rfl (dF h21) rfl) (nt (jf (sk (sr (Mz rfl (An rfl (rt (rs ?_))))))))))))
 have H27 : Own w D w [] := H.pk []
 obtain rfl : _ = p0 := hr.symm.trans (et (iN h21) (iN h23))
 exact ⟨rfl, H27⟩
def span_below (p0 : List UInt8) (p1 : List UInt8) : Bool :=
 if p1 = ([]) then true else decide (p0 < p1)
set_option maxRecDepth 100000 in
theorem span_below_ok (w : World) (D : Nat → Prop) (p0 : List UInt8) (p1 : List UInt8) (r0 : Bool) (H : Own w D w [])  (hr : span_below p0 p1 = r0) :
    Calls Try.prog 55 #[.string ⟨List.toArray p0⟩, .string ⟨List.toArray p1⟩] w (Ret fun v w' => v = .bool r0 ∧ Own w D w' []) := by
 refine Calls.body (args := [.string ⟨List.toArray p0⟩, .string ⟨List.toArray p1⟩]) Try.func55 rfl rfl rfl ?_
 show Wp _ _ _ [(0, .string ⟨List.toArray p0⟩), (1, .string ⟨List.toArray p1⟩)] _ _
 refine sr (Ar rfl (Mz rfl (fw (.bool (decide (p1 = ([])))) (Yl.strEq rfl rfl) (Mz rfl ?_))))
 by_cases h21 : p1 = ([])
 refine Sz (dT h21) (Sz (dT h21) (Sz (dT h21) (fw (.bool true) (Yl.pickT rfl (dT h21) rfl) (An rfl (rt (rs ?_))))))
 have H22 : Own w D w [] := H.pk []
 obtain rfl : _ = true := hr.symm.trans (ip h21)
 exact ⟨rfl, H22⟩
 refine gw (.string ⟨List.toArray p0⟩) (dF h21) (Yl.move rfl) (gw (.string ⟨List.toArray p1⟩) (dF h21) (Yl.move rfl) (gw (.bool (decide (p0 < p1))) (dF h21) (Yl.bool (e := Op.bytesLess p0 p1) (Yl.strLt rfl rfl) (bl_lt _ _)) (fw (.bool (decide (p0 < p1))) (Yl.pickF rfl (dF h21) rfl) (An rfl (rt (rs ?_))))))
 have H23 : Own w D w [] := H.pk []
 obtain rfl : _ = decide (p0 < p1) := hr.symm.trans (iN h21)
 exact ⟨rfl, H23⟩
def span_Meet (p0 : RangeD) (p1 : RangeD) : RangeD × Bool :=
 bnd (span_Check p0) fun yr35 => if yr35 = 0 then bnd (span_Check p1) fun yr46 => if yr46 = 0 then bnd (span_lesserHi p0.xHi p1.xHi) fun yr99 => bnd (span_below (maxL p0.xLo p1.xLo) yr99) fun yr114 => if yr114 = true then (RangeD.mk (maxL p0.xLo p1.xLo) yr99, true) else (RangeD.mk ([]) ([]), false) else (RangeD.mk ([]) ([]), false) else (RangeD.mk ([]) ([]), false)
set_option maxRecDepth 100000 in
theorem span_Meet_ok (w : World) (D : Nat → Prop) (p0 : RangeD) (p1 : RangeD) (r0 : RangeD) (r1 : Bool) (H : Own w D w [])  (hr : span_Meet p0 p1 = (r0, r1)) :
    Calls Try.prog 57 #[.agg (RangeD.cells p0).toArray, .agg (RangeD.cells p1).toArray] w (Ret fun v w' => v = .tuple #[.agg (RangeD.cells r0).toArray, .bool r1] ∧ Own w D w' []) := by
 refine Calls.body (args := [.agg (RangeD.cells p0).toArray, .agg (RangeD.cells p1).toArray]) Try.func57 rfl rfl rfl ?_
 show Wp _ _ _ [(0, .agg (RangeD.cells p0).toArray), (1, .agg (RangeD.cells p1).toArray)] _ _
 refine sr ?_
 refine npw (RangeD.cells p0) 24 H ?_
 intro g21 w22 H23
 refine npw (RangeD.cells p1) 24 H23 ?_
 intro g24 w25 H26
 refine npw [.string ⟨List.toArray ([])⟩, .string ⟨List.toArray ([])⟩] 24 H26 ?_
 intro g27 w28 H29
 refine An rfl (Wp.seq (sr (La (RangeD.cells p0) H29 2 Try.isAgg24 Try.sizeOf24 ?_)))
 obtain ⟨r35, hr36⟩ : ∃ q, span_Check p0 = q := ⟨_, rfl⟩
 obtain ⟨D30, HP31, ro32, bk33, rr34⟩ := Own.enter0 H29
 refine cl Try.call29 (span_Check_ok _ _ p0 r35 HP31 hr36) ?_
 rintro _ w37 ⟨rfl, HQ38⟩
 have H39 := bk33 _ _ HQ38
 refine fw (.bool (decide (¬ (r35 = 0)))) (Yl.bool (e := !(decide (r35 = 0))) yk decide_not.symm) (Mz rfl ?_)
 by_cases h40 : r35 = 0
 refine gw (.agg (RangeD.cells p1).toArray) (dF (not_not_intro h40)) (Yl.load rfl (Lds.agg (cs := (RangeD.cells p1)) Try.isAgg24 Try.sizeOf24 ((H39.cls (i := 1) rfl).lit (k := 0) (m := 2) rfl))) ?_
 obtain ⟨r46, hr47⟩ : ∃ q, span_Check p1 = q := ⟨_, rfl⟩
 obtain ⟨D41, HP42, ro43, bk44, rr45⟩ := Own.enter0 H39
 refine clG (dF (not_not_intro h40)) Try.call29 (span_Check_ok _ _ p1 r46 HP42 hr47) ?_
 rintro _ w48 ⟨rfl, HQ49⟩
 have H50 := bk44 _ _ HQ49
 refine gw (.bool (decide (¬ (r46 = 0)))) (dF (not_not_intro h40)) (Yl.bool (e := !(decide (r46 = 0))) yk decide_not.symm) (fw (.bool (decide (¬ (r46 = 0)))) (Yl.pickF rfl (dF (not_not_intro h40)) rfl) (nt ?_))
 by_cases h51 : r46 = 0
 refine jF (dF (not_not_intro h51)) (sk (Wp.seq ?_))
 have H53 := H50.drew
 refine Wp.drawnX [] (fun W => ∃ L', Own w D W ([blk g27 [.string ⟨List.toArray ([])⟩, .string ⟨List.toArray ([])⟩] 24, blk g24 (RangeD.cells p1) 24, blk g21 (RangeD.cells p0) 24] ++ L')) (by kernel_rfl) (by kernel_rfl) (NoP.then NoP.base) ⟨_, H53⟩ ?_
 revert H53
 generalize World.drew w48 = w52
 intro H53
 refine GX.take (v := .pointer (some ⟨g21, 0, none⟩)) (rs := []) 0 rfl (by kernel_rfl) (fun _ _ => yk) (GX.take (v := .string ⟨List.toArray p0.xLo⟩) (rs := []) 1 rfl (by kernel_rfl) (fun _ ⟨_, H9⟩ => Yl.load rfl (Lds.one Try.isAgg9 (Cls.of (H9.cls (i := 2) rfl) rfl))) (GX.take (v := .pointer (some ⟨g24, 0, none⟩)) (rs := []) 2 rfl (by kernel_rfl) (fun _ _ => yk) (GX.take (v := .string ⟨List.toArray p1.xLo⟩) (rs := []) 3 rfl (by kernel_rfl) (fun _ ⟨_, H9⟩ => Yl.load rfl (Lds.one Try.isAgg9 (Cls.of (H9.cls (i := 1) rfl) rfl))) (GX.take (v := .string ⟨List.toArray (maxL p0.xLo p1.xLo)⟩) (rs := []) 4 rfl (by kernel_rfl) (fun _ _ => Yl.maxStr rfl) (GX.take (v := .pointer (some ⟨g21, 1, none⟩)) (rs := []) 5 rfl (by kernel_rfl) (fun _ _ => yk) (GX.take (v := .string ⟨List.toArray p0.xHi⟩) (rs := []) 6 rfl (by kernel_rfl) (fun _ ⟨_, H9⟩ => Yl.load rfl (Lds.one Try.isAgg9 (Cls.of (H9.cls (i := 2) rfl) rfl))) (GX.take (v := .pointer (some ⟨g24, 1, none⟩)) (rs := []) 7 rfl (by kernel_rfl) (fun _ _ => yk) (GX.take (v := .string ⟨List.toArray p1.xHi⟩) (rs := []) 8 rfl (by kernel_rfl) (fun _ ⟨_, H9⟩ => Yl.load rfl (Lds.one Try.isAgg9 (Cls.of (H9.cls (i := 1) rfl) rfl))) ?_))))))))
 refine GX.any2 9 11 (by kernel_rfl) ?_ ?_
 obtain ⟨r59, hr60⟩ : ∃ q, span_lesserHi p0.xHi p1.xHi = q := ⟨_, rfl⟩
 obtain ⟨D54, HP55, ro56, bk57, rr58⟩ := Own.enter0 H53
 refine GY.do 9 rfl (by kernel_rfl) (Do.call Try.call82 rfl (span_lesserHi_ok _ _ p0.xHi p1.xHi r59 HP55 hr60) ?_)
 rintro _ w61 ⟨rfl, HQ62⟩
 have H63 := bk57 _ _ HQ62
 refine ⟨.inr ⟨_, H63⟩, ?_⟩
 refine GX.take (v := .agg #[.string ⟨List.toArray (maxL p0.xLo p1.xLo)⟩, .string ⟨List.toArray r59⟩]) (rs := []) 10 rfl (by kernel_rfl) (fun _ _ => yk) ?_
 refine GX.do 11 rfl (by kernel_rfl) (Do.newP (cs := [.string ⟨List.toArray ([])⟩, .string ⟨List.toArray ([])⟩]) (t := 24) H63 rfl rfl (fun _ => by kernel_rfl) ?_)
 intro g64 w65 H66
 have H67 := H66.pk [1, 2, 3, 0]
 refine ⟨.inr ⟨_, H67⟩, ?_⟩
 have H68 := H67.pk [3, 0, 1, 2]
 refine GX.do0 12 rfl (by kernel_rfl) (Do.store (vs := [.string ⟨List.toArray (maxL p0.xLo p1.xLo)⟩, .string ⟨List.toArray r59⟩]) (o := 0) H68 rfl rfl Try.sizeOf24 rfl rfl rfl rfl ?_)
 intro w69 H70
 have H71 := H70.pk [1, 2, 3, 0]
 refine ⟨.inr ⟨_, H71⟩, ?_⟩
 refine GX.done (by kernel_rfl) (Fin.then (Wp.seq (Wp.seq ?_)))
 have H72 := H71.pk [0, 3]
 refine Wp.region (Kz (.pointer (some ⟨g64, 0, none⟩)) (Lz (.string ⟨List.toArray (maxL p0.xLo p1.xLo)⟩) H72 1 Try.isAgg9 (Kz (.pointer (some ⟨g64, 1, none⟩)) (Lz (.string ⟨List.toArray r59⟩) H72 1 Try.isAgg9 ?_))))
 obtain ⟨r78, hr79⟩ : ∃ q, span_below (maxL p0.xLo p1.xLo) r59 = q := ⟨_, rfl⟩
 obtain ⟨D73, HP74, ro75, bk76, rr77⟩ := Own.enter0 H72
 refine cl Try.call55 (span_below_ok _ _ (maxL p0.xLo p1.xLo) r59 r78 HP74 hr79) ?_
 rintro _ w80 ⟨rfl, HQ81⟩
 have H82 := bk76 _ _ HQ81
 refine Kz (.bool (!r78)) (nt ?_)
 rcases Bool.eq_false_or_eq_true (r78) with h83 | h83
 refine jF (cn h83) (sk (sr (La ([.string ⟨List.toArray (maxL p0.xLo p1.xLo)⟩, .string ⟨List.toArray r59⟩]) H82 1 Try.isAgg24 Try.sizeOf24 ?_)))
 refine sto [.string ⟨List.toArray (maxL p0.xLo p1.xLo)⟩, .string ⟨List.toArray r59⟩] 0 H82 Try.sizeOf24 ?_
 intro w84 H85
 refine An rfl (rt (Fin.res (resN (vs := [.agg #[.string ⟨List.toArray (maxL p0.xLo p1.xLo)⟩, .string ⟨List.toArray r59⟩], .bool true]) rfl (ResV.cell rfl (Lds.agg (cs := [.string ⟨List.toArray (maxL p0.xLo p1.xLo)⟩, .string ⟨List.toArray r59⟩]) Try.isAgg24 Try.sizeOf24 ((H85.cls (i := 0) rfl).lit (k := 0) (m := 2) rfl)) (ResV.tmp rfl ResV.nil)) (Nat.le_of_ble_eq_true rfl)) ?_))
 have H86 := H85.pk []
 have e : span_Meet p0 p1 = (RangeD.mk (maxL p0.xLo p1.xLo) r59, true) := et (bnd_of hr36) (et (ip h40) (et (bnd_of hr47) (et (ip h51) (et (bnd_of hr60) (et (bnd_of hr79) (ip h83))))))
 obtain ⟨rfl, rfl⟩ := pj2 (e.symm.trans hr)
 exact ⟨rfl, H86⟩
 refine jT (cn h83) (sr (Kz (.agg #[.string ⟨List.toArray ([])⟩, .string ⟨List.toArray ([])⟩]) ?_))
 refine sto [.string ⟨List.toArray ([])⟩, .string ⟨List.toArray ([])⟩] 0 H82 Try.sizeOf24 ?_
 intro w87 H88
 refine An rfl (rt (tR (Fin.res (resN (vs := [.agg #[.string ⟨List.toArray ([])⟩, .string ⟨List.toArray ([])⟩], .bool false]) rfl (ResV.cell rfl (Lds.agg (cs := [.string ⟨List.toArray ([])⟩, .string ⟨List.toArray ([])⟩]) Try.isAgg24 Try.sizeOf24 ((H88.cls (i := 0) rfl).lit (k := 0) (m := 2) rfl)) (ResV.tmp rfl ResV.nil)) (Nat.le_of_ble_eq_true rfl)) ?_)))
 have H89 := H88.pk []
 have e : span_Meet p0 p1 = (RangeD.mk ([]) ([]), false) := et (bnd_of hr36) (et (ip h40) (et (bnd_of hr47) (et (ip h51) (et (bnd_of hr60) (et (bnd_of hr79) (ifF h83))))))
 obtain ⟨rfl, rfl⟩ := pj2 (e.symm.trans hr)
 exact ⟨rfl, H89⟩
 refine GY.do 11 rfl (by kernel_rfl) (Do.newP (cs := [.string ⟨List.toArray ([])⟩, .string ⟨List.toArray ([])⟩]) (t := 24) H53 rfl rfl (fun _ => by kernel_rfl) ?_)
 intro g90 w91 H92
 have H93 := H92.pk [1, 2, 3, 0]
 refine ⟨.inr ⟨_, H93⟩, ?_⟩
 obtain ⟨r99, hr100⟩ : ∃ q, span_lesserHi p0.xHi p1.xHi = q := ⟨_, rfl⟩
 obtain ⟨D94, HP95, ro96, bk97, rr98⟩ := Own.enter0 H93
 refine GX.do 9 rfl (by kernel_rfl) (Do.call Try.call82 rfl (span_lesserHi_ok _ _ p0.xHi p1.xHi r99 HP95 hr100) ?_)
 rintro _ w101 ⟨rfl, HQ102⟩
 have H103 := bk97 _ _ HQ102
 refine ⟨.inr ⟨_, H103⟩, ?_⟩
 refine GX.take (v := .agg #[.string ⟨List.toArray (maxL p0.xLo p1.xLo)⟩, .string ⟨List.toArray r99⟩]) (rs := []) 10 rfl (by kernel_rfl) (fun _ _ => yk) ?_
 have H104 := H103.pk [3, 0, 1, 2]
 refine GX.do0 12 rfl (by kernel_rfl) (Do.store (vs := [.string ⟨List.toArray (maxL p0.xLo p1.xLo)⟩, .string ⟨List.toArray r99⟩]) (o := 0) H104 rfl rfl Try.sizeOf24 rfl rfl rfl rfl ?_)
 intro w105 H106
 have H107 := H106.pk [1, 2, 3, 0]
 refine ⟨.inr ⟨_, H107⟩, ?_⟩
 refine GX.done (by kernel_rfl) (Fin.then (Wp.seq (Wp.seq ?_)))
 have H108 := H107.pk [0, 3]
 refine Wp.region (Kz (.pointer (some ⟨g90, 0, none⟩)) (Lz (.string ⟨List.toArray (maxL p0.xLo p1.xLo)⟩) H108 1 Try.isAgg9 (Kz (.pointer (some ⟨g90, 1, none⟩)) (Lz (.string ⟨List.toArray r99⟩) H108 1 Try.isAgg9 ?_))))
 obtain ⟨r114, hr115⟩ : ∃ q, span_below (maxL p0.xLo p1.xLo) r99 = q := ⟨_, rfl⟩
 obtain ⟨D109, HP110, ro111, bk112, rr113⟩ := Own.enter0 H108
 refine cl Try.call55 (span_below_ok _ _ (maxL p0.xLo p1.xLo) r99 r114 HP110 hr115) ?_
 rintro _ w116 ⟨rfl, HQ117⟩
 have H118 := bk112 _ _ HQ117
 refine Kz (.bool (!r114)) (nt ?_)
 rcases Bool.eq_false_or_eq_true (r114) with h119 | h119
 refine jF (cn h119) (sk (sr (La ([.string ⟨List.toArray (maxL p0.xLo p1.xLo)⟩, .string ⟨List.toArray r99⟩]) H118 1 Try.isAgg24 Try.sizeOf24 ?_)))
 refine sto [.string ⟨List.toArray (maxL p0.xLo p1.xLo)⟩, .string ⟨List.toArray r99⟩] 0 H118 Try.sizeOf24 ?_
 intro w120 H121
 refine An rfl (rt (Fin.res (resN (vs := [.agg #[.string ⟨List.toArray (maxL p0.xLo p1.xLo)⟩, .string ⟨List.toArray r99⟩], .bool true]) rfl (ResV.cell rfl (Lds.agg (cs := [.string ⟨List.toArray (maxL p0.xLo p1.xLo)⟩, .string ⟨List.toArray r99⟩]) Try.isAgg24 Try.sizeOf24 ((H121.cls (i := 0) rfl).lit (k := 0) (m := 2) rfl)) (ResV.tmp rfl ResV.nil)) (Nat.le_of_ble_eq_true rfl)) ?_))
 have H122 := H121.pk []
 have e : span_Meet p0 p1 = (RangeD.mk (maxL p0.xLo p1.xLo) r99, true) := et (bnd_of hr36) (et (ip h40) (et (bnd_of hr47) (et (ip h51) (et (bnd_of hr100) (et (bnd_of hr115) (ip h119))))))
 obtain ⟨rfl, rfl⟩ := pj2 (e.symm.trans hr)
 exact ⟨rfl, H122⟩
 refine jT (cn h119) (sr (Kz (.agg #[.string ⟨List.toArray ([])⟩, .string ⟨List.toArray ([])⟩]) ?_))
 refine sto [.string ⟨List.toArray ([])⟩, .string ⟨List.toArray ([])⟩] 0 H118 Try.sizeOf24 ?_
 intro w123 H124
 refine An rfl (rt (tR (Fin.res (resN (vs := [.agg #[.string ⟨List.toArray ([])⟩, .string ⟨List.toArray ([])⟩], .bool false]) rfl (ResV.cell rfl (Lds.agg (cs := [.string ⟨List.toArray ([])⟩, .string ⟨List.toArray ([])⟩]) Try.isAgg24 Try.sizeOf24 ((H124.cls (i := 0) rfl).lit (k := 0) (m := 2) rfl)) (ResV.tmp rfl ResV.nil)) (Nat.le_of_ble_eq_true rfl)) ?_)))
 have H125 := H124.pk []
 have e : span_Meet p0 p1 = (RangeD.mk ([]) ([]), false) := et (bnd_of hr36) (et (ip h40) (et (bnd_of hr47) (et (ip h51) (et (bnd_of hr100) (et (bnd_of hr115) (ifF h119))))))
 obtain ⟨rfl, rfl⟩ := pj2 (e.symm.trans hr)
 exact ⟨rfl, H125⟩
 refine jT (dT h51) (sr (Kz (.agg #[.string ⟨List.toArray ([])⟩, .string ⟨List.toArray ([])⟩]) ?_))
 refine sto [.string ⟨List.toArray ([])⟩, .string ⟨List.toArray ([])⟩] 0 H50 Try.sizeOf24 ?_
 intro w126 H127
 refine An rfl (rt (tR (Fin.res (resN (vs := [.agg #[.string ⟨List.toArray ([])⟩, .string ⟨List.toArray ([])⟩], .bool false]) rfl (ResV.cell rfl (Lds.agg (cs := [.string ⟨List.toArray ([])⟩, .string ⟨List.toArray ([])⟩]) Try.isAgg24 Try.sizeOf24 ((H127.cls (i := 0) rfl).lit (k := 0) (m := 2) rfl)) (ResV.tmp rfl ResV.nil)) (Nat.le_of_ble_eq_true rfl)) ?_)))
 have H128 := H127.pk []
 have e : span_Meet p0 p1 = (RangeD.mk ([]) ([]), false) := et (bnd_of hr36) (et (ip h40) (et (bnd_of hr47) (iN h51)))
 obtain ⟨rfl, rfl⟩ := pj2 (e.symm.trans hr)
 exact ⟨rfl, H128⟩
 refine Sz (dT h40) (Sz (dT h40) (Sz (dT h40) (fw (.bool true) (Yl.pickT rfl (dT h40) rfl) (nt (jt (sr (Kz (.agg #[.string ⟨List.toArray ([])⟩, .string ⟨List.toArray ([])⟩]) ?_)))))))
 refine sto [.string ⟨List.toArray ([])⟩, .string ⟨List.toArray ([])⟩] 0 H39 Try.sizeOf24 ?_
 intro w129 H130
 refine An rfl (rt (tR (Fin.res (resN (vs := [.agg #[.string ⟨List.toArray ([])⟩, .string ⟨List.toArray ([])⟩], .bool false]) rfl (ResV.cell rfl (Lds.agg (cs := [.string ⟨List.toArray ([])⟩, .string ⟨List.toArray ([])⟩]) Try.isAgg24 Try.sizeOf24 ((H130.cls (i := 0) rfl).lit (k := 0) (m := 2) rfl)) (ResV.tmp rfl ResV.nil)) (Nat.le_of_ble_eq_true rfl)) ?_)))
 have H131 := H130.pk []
 have e : span_Meet p0 p1 = (RangeD.mk ([]) ([]), false) := et (bnd_of hr36) (iN h40)
 obtain ⟨rfl, rfl⟩ := pj2 (e.symm.trans hr)
 exact ⟨rfl, H131⟩
def owner_cutOp_L0 (l0 : List OwnerD) (p1 : Int) (p2 : OpD) : List OwnerD → List OpD → Nat → (List OpD)
  | [], l28, k29 => l28
  | x42 :: q30, l28, k29 => if x42.xShard = p1 then bnd (owner_rangeOf l0 ((k29 : Nat) : Int)) fun yr133 => bnd (span_Meet (RangeD.mk p2.xLo p2.xHi) yr133) fun yr143 => if yr143.2 = true then owner_cutOp_L0 l0 p1 p2 q30 (l28 ++ [(OpD.mk p2.xKind ([]) ([]) yr143.1.xLo yr143.1.xHi p2.xMost)]) (k29 + 1) else owner_cutOp_L0 l0 p1 p2 q30 l28 (k29 + 1) else owner_cutOp_L0 l0 p1 p2 q30 l28 (k29 + 1)
def owner_cutOp_L1 (l0 : List OwnerD) (p1 : Int) (p2 : OpD) : List OwnerD → List OpD → Nat → (List OpD)
  | [], l175, k176 => l175
  | x189 :: q177, l175, k176 => if x189.xShard = p1 then bnd (owner_rangeOf l0 ((k176 : Nat) : Int)) fun yr280 => bnd (span_Meet (RangeD.mk p2.xLo p2.xHi) yr280) fun yr290 => if yr290.2 = true then owner_cutOp_L1 l0 p1 p2 q177 (l175 ++ [(OpD.mk p2.xKind ([]) ([]) yr290.1.xLo yr290.1.xHi p2.xMost)]) (k176 + 1) else owner_cutOp_L1 l0 p1 p2 q177 l175 (k176 + 1) else owner_cutOp_L1 l0 p1 p2 q177 l175 (k176 + 1)
def owner_cutOp (l0 : List OwnerD) (p1 : Int) (p2 : OpD) : (List OpD) :=
 if p2.xKind = 4 then bnd (owner_cutOp_L0 l0 p1 p2 l0 ([]) 0) fun sLrtL => sLrtL else if p2.xKind = 5 then bnd (owner_cutOp_L1 l0 p1 p2 l0 ([]) 0) fun sLrftL => sLrftL else bnd (owner_place l0 p2.xKey) fun yr323 => bnd (List.getD l0 (Int.toNat yr323) default) fun yx329 => bnd (if yx329.xShard = p1 then [p2] else []) fun sJrffbbJ => sJrffbbJ
set_option maxRecDepth 100000 in
theorem owner_cutOp_ok (w : World) (D : Nat → Prop) (A0 : Option Addr) (n0 c0 : Nat) (l0 : List OwnerD) (p1 : Int) (p2 : OpD) (r0 : List OpD) (H : Own w D w []) (hx0 : Ro w D fun w' => Rds w' 2 A0 n0 (List.flatMap OwnerD.cells l0)) (hn0 : n0 = l0.length) (hl0 : l0.length * 24 ≤ 211106232532992) (hh0 : 1 ≤ l0.length ∧ l0.length ≤ 6) (hr : owner_cutOp l0 p1 p2 = r0) :
    Calls Try.prog 49 #[.slice A0 n0 c0, .int .i64 p1, .agg (OpD.cells p2).toArray] w (Ret fun v w' => ∃ (B0 : Option Addr) (b0 : Nat), v = .slice B0 r0.length b0 ∧ Own w D w' [row B0 r0.length b0 (List.flatMap OpD.cells r0) 74 6] ∧ (r0.length ≤ 6)) := by
 subst hn0
 refine Calls.body (args := [.slice A0 l0.length c0, .int .i64 p1, .agg (OpD.cells p2).toArray]) Try.func49 rfl rfl rfl ?_
 show Wp _ _ _ [(0, .slice A0 l0.length c0), (1, .int .i64 p1), (2, .agg (OpD.cells p2).toArray)] _ _
 refine sr ?_
 refine npw (OpD.cells p2) 74 H ?_
 intro g21 w22 H23
 refine Ar rfl (An rfl (Wp.seq (sr (Kz (.pointer (some ⟨g21, 0, none⟩)) (Lz (.int .i64 p2.xKind) H23 0 Try.isAgg3 (fw (.bool (decide (¬ (p2.xKind = 4)))) (Yl.bool (e := !(decide (p2.xKind = 4))) yk decide_not.symm) (Mz rfl ?_)))))))
 by_cases h24 : p2.xKind = 4
 refine Sk rfl rfl (dF (not_not_intro h24)) rfl (Sk rfl rfl (dF (not_not_intro h24)) rfl (Sk rfl rfl (dF (not_not_intro h24)) rfl (fw (.bool false) (Yl.pickF rfl (dF (not_not_intro h24)) rfl) (nt (jf (sk (Wp.seq (sr (Mz rfl (Kz (.int .i64 ((l0.length : Nat) : Int)) (Mn rfl (bo ?_))))))))))))
 have H25 : Own w D w22 [row none 0 0 (List.flatMap OpD.cells ([])) 74 6, blk g21 (OpD.cells p2) 74] := H23.free (row_nil 74 6)
 have H31 := H25.pk [1, 0]
 obtain ⟨I35, hI36⟩ : ∃ q : ((Option Addr) × Nat × (List OpD) × Nat) → World → Prop, q = fun (i : (Option Addr) × Nat × (List OpD) × Nat) w' => Own w D w' [blk g21 (OpD.cells p2) 74, row i.1 i.2.2.1.length i.2.1 (List.flatMap OpD.cells i.2.2.1) 74 6] ∧ (i.2.2.2 ≤ l0.length ∧ i.2.2.1.length ≤ i.2.2.2 ∧ owner_cutOp_L0 l0 p1 p2 l0 ([]) 0 = owner_cutOp_L0 l0 p1 p2 (List.drop i.2.2.2 l0) i.2.2.1 i.2.2.2) := ⟨_, rfl⟩
 have dm37 : ∀ {A26 : Option Addr} {c27 : Nat} {l28 : List OpD} {k29 : Nat} {w' : World}, I35 (A26, c27, l28, k29) w' ↔ Own w D w' [blk g21 (OpD.cells p2) 74, row A26 l28.length c27 (List.flatMap OpD.cells l28) 74 6] ∧ k29 ≤ l0.length ∧ l28.length ≤ k29 ∧ owner_cutOp_L0 l0 p1 p2 l0 ([]) 0 = owner_cutOp_L0 l0 p1 p2 (List.drop k29 l0) l28 k29 := by intros; subst hI36; exact Iff.rfl
 refine Wp.loop (fun i : (Option Addr) × Nat × (List OpD) × Nat => [(7, .slice i.1 i.2.2.1.length i.2.1), (36, .int .i64 ((i.2.2.2 : Nat) : Int)), (35, .int .i64 ((l0.length : Nat) : Int)), (6, .slice none 0 0), (5, .pointer (some ⟨g21, 0, none⟩)), (0, .slice A0 l0.length c0), (1, .int .i64 p1)]) I35 (fun i => l0.length - i.2.2.2) (none, 0, [], 0) ⟨rfl, rfl, rfl, rfl, rfl, rfl, rfl, trivial⟩ (dm37.2 ⟨H31, (show 0 ≤ l0.length ∧ 0 ≤ 0 ∧ owner_cutOp_L0 l0 p1 p2 l0 ([]) 0 = owner_cutOp_L0 l0 p1 p2 (List.drop 0 l0) ([]) 0 from ⟨by omega, by omega, rfl⟩)⟩) ?_
 rintro ⟨A26, c27, l28, k29⟩ w32 hf34
 show Wp _ _ _ [(7, .slice A26 l28.length c27), (36, .int .i64 ((k29 : Nat) : Int)), (35, .int .i64 ((l0.length : Nat) : Int)), (6, .slice none 0 0), (5, .pointer (some ⟨g21, 0, none⟩)), (0, .slice A0 l0.length c0), (1, .int .i64 p1)] _ _
 obtain ⟨H33, hi39, hi40, hq38⟩ := dm37.1 hf34
 refine sr (Kz (.bool (decide (((k29 : Nat) : Int) < ((l0.length : Nat) : Int)))) (nt (Wp.seq ?_)))
 by_cases h41 : ((k29 : Nat) : Int) < ((l0.length : Nat) : Int)
 obtain ⟨x42, hx43⟩ := rds_at (ls := l0) (i := k29) OwnerD.len (by decide) (H33.ro hx0) (by first | omega | (simp; done) | (simp; omega))
 have hd44 := drop_at hx43
 refine jT (dT h41) (sk (Wp.seq (bo (sr (Mz rfl (An rfl (Wp.seq (sr (Mz rfl (Mz rfl (fw (.pointer (some ⟨ab A0, ao A0 + k29 * 2, none⟩)) (Yl.indexAddr (El22) rfl rfl ((H33.ro hx0).addr (i := k29) (by omega)) (by omega)) (Kz (.pointer (some ⟨ab A0, ao A0 + k29 * 2 + 1, none⟩)) (fw (.int .i64 x42.xShard) (Yl.load rfl (Lds.one Try.isAgg3 (((H33.ro hx0).elem OwnerD.len hx43 (by decide)).at_ (k := 1) rfl))) (Mz rfl (fw (.bool (decide (¬ (x42.xShard = p1)))) (Yl.bool (e := !(decide (x42.xShard = p1))) yk decide_not.symm) (nt ?_))))))))))))))))
 by_cases h45 : x42.xShard = p1
 refine jF (dF (not_not_intro h45)) (sk (Wp.seq ?_))
 have H47 := H33.drew
 refine Wp.drawnX [] (fun W => ∃ L', Own w D W ([blk g21 (OpD.cells p2) 74, row A26 l28.length c27 (List.flatMap OpD.cells l28) 74 6] ++ L')) (by kernel_rfl) (by kernel_rfl) (NoP.then (NoP.block (NoP.then (NoP.then (NoP.block (NoP.then NoP.base)))))) ⟨_, H47⟩ ?_
 revert H47
 generalize World.drew w32 = w46
 intro H47
 refine GX.take (v := .pointer (some ⟨g21, 3, none⟩)) (rs := []) 0 rfl (by kernel_rfl) (fun _ _ => yk) (GX.take (v := .string ⟨List.toArray p2.xLo⟩) (rs := []) 1 rfl (by kernel_rfl) (fun _ ⟨_, H9⟩ => Yl.load rfl (Lds.one Try.isAgg9 (Cls.of (H9.cls (i := 0) rfl) rfl))) (GX.take (v := .pointer (some ⟨g21, 4, none⟩)) (rs := []) 2 rfl (by kernel_rfl) (fun _ _ => yk) (GX.take (v := .string ⟨List.toArray p2.xHi⟩) (rs := []) 3 rfl (by kernel_rfl) (fun _ ⟨_, H9⟩ => Yl.load rfl (Lds.one Try.isAgg9 (Cls.of (H9.cls (i := 0) rfl) rfl))) (GX.take (v := .agg #[.string ⟨List.toArray p2.xLo⟩, .string ⟨List.toArray p2.xHi⟩]) (rs := []) 4 rfl (by kernel_rfl) (fun _ _ => yk) (GX.take (v := .slice A0 l0.length c0) (rs := []) 5 rfl (by kernel_rfl) (fun _ _ => Yl.move rfl) (GX.take (v := .int .i64 ((k29 : Nat) : Int)) (rs := []) 6 rfl (by kernel_rfl) (fun _ _ => Yl.move rfl) ?_))))))
 refine GX.any2 7 12 (by kernel_rfl) ?_ ?_
 obtain ⟨r53, hr54⟩ : ∃ q, owner_rangeOf l0 ((k29 : Nat) : Int) = q := ⟨_, rfl⟩
 obtain ⟨D48, HP49, ro50, bk51, rr52⟩ := Own.enter0 H47
 refine GY.do 7 rfl (by kernel_rfl) (Do.call Try.call36 rfl (owner_rangeOf_ok _ _ A0 l0.length c0 l0 ((k29 : Nat) : Int) r53 HP49 (ro50 _ hx0) rfl (by omega) (by omega) hr54) ?_)
 rintro _ w55 ⟨rfl, HQ56⟩
 have H57 := bk51 _ _ HQ56
 refine ⟨.inr ⟨_, H57⟩, ?_⟩
 refine GX.any2 8 12 (by kernel_rfl) ?_ ?_
 obtain ⟨⟨r63, r64⟩, hr65⟩ : ∃ q : RangeD × Bool, span_Meet (RangeD.mk p2.xLo p2.xHi) r53 = q := ⟨_, rfl⟩
 obtain ⟨D58, HP59, ro60, bk61, rr62⟩ := Own.enter0 H57
 refine GY.do 8 rfl (by kernel_rfl) (Do.call Try.call57 rfl (span_Meet_ok _ _ (RangeD.mk p2.xLo p2.xHi) r53 r63 r64 HP59 hr65) ?_)
 rintro _ w66 ⟨rfl, HQ67⟩
 have H68 := bk61 _ _ HQ67
 refine ⟨.inr ⟨_, H68⟩, ?_⟩
 refine GX.take (v := .tuple #[.agg (RangeD.cells r63).toArray, .bool r64]) (rs := []) 9 rfl (by kernel_rfl) (fun _ _ => Yl.move rfl) (GX.take (v := .agg (RangeD.cells r63).toArray) (rs := []) 10 rfl (by kernel_rfl) (fun _ _ => yk) (GX.take (v := .bool r64) (rs := []) 11 rfl (by kernel_rfl) (fun _ _ => yk) ?_))
 refine GX.do 12 rfl (by kernel_rfl) (Do.newP (cs := [.string ⟨List.toArray ([])⟩, .string ⟨List.toArray ([])⟩]) (t := 24) H68 rfl rfl (fun _ => by kernel_rfl) ?_)
 intro g69 w70 H71
 have H72 := H71.pk [1, 2, 0]
 refine ⟨.inr ⟨_, H72⟩, ?_⟩
 have H73 := H72.pk [2, 0, 1]
 refine GX.do0 13 rfl (by kernel_rfl) (Do.store (vs := (RangeD.cells r63)) (o := 0) H73 rfl rfl Try.sizeOf24 rfl rfl rfl rfl ?_)
 intro w74 H75
 have H76 := H75.pk [1, 2, 0]
 refine ⟨.inr ⟨_, H76⟩, ?_⟩
 refine GX.take (v := .bool r64) (rs := []) 14 rfl (by kernel_rfl) (fun _ _ => Yl.assign rfl) (GX.done (by kernel_rfl) (Fin.then (sr (Mn rfl ?_))))
 rcases Bool.eq_false_or_eq_true (r64) with h77 | h77
 refine jT h77 (Wp.region (Mz rfl (Kz (.pointer (some ⟨g21, 0, none⟩)) (Lz (.int .i64 p2.xKind) H76 0 Try.isAgg3 (Kz (.pointer (some ⟨g69, 0, none⟩)) (Lz (.string ⟨List.toArray r63.xLo⟩) H76 2 Try.isAgg9 (Kz (.pointer (some ⟨g69, 1, none⟩)) (Lz (.string ⟨List.toArray r63.xHi⟩) H76 2 Try.isAgg9 (Kz (.pointer (some ⟨g21, 5, none⟩)) (Lz (.int .i64 p2.xMost) H76 0 Try.isAgg3 (Kz (.agg #[.int .i64 p2.xKind, .string ⟨List.toArray ([])⟩, .string ⟨List.toArray ([])⟩, .string ⟨List.toArray r63.xLo⟩, .string ⟨List.toArray r63.xHi⟩, .int .i64 p2.xMost]) ?_)))))))))))
 refine nrw [.int .i64 p2.xKind, .string ⟨List.toArray ([])⟩, .string ⟨List.toArray ([])⟩, .string ⟨List.toArray r63.xLo⟩, .string ⟨List.toArray r63.xHi⟩, .int .i64 p2.xMost] 74 6 1 H76 ?_
 intro A78 w79 H80
 replace H80 := Own.reh (y := row A78 1 1 (List.flatMap OpD.cells ([(OpD.mk p2.xKind ([]) ([]) r63.xLo r63.xHi p2.xMost)])) 74 6) rfl H80
 have H81 := H80.pk [2, 0, 1, 3]
 refine WL.do rfl (Do.appendW (k := l28.length) (m := 1) (El41) H81 rfl rfl (src_of Try.underlying41 (H81.rds (i := 1) rfl) (flat_one OpD.one ([(OpD.mk p2.xKind ([]) ([]) r63.xLo r63.xHi p2.xMost)]))) rfl (by omega) (s := List.length (l28 ++ [(OpD.mk p2.xKind ([]) ([]) r63.xLo r63.xHi p2.xMost)])) (by first | omega | (simp only [List.length_append, List.length_cons, List.length_nil] <;> omega)) (List.flatMap_append).symm ?_)
 intro A82 c83 w84 H85
 have hl86 : List.length (l28 ++ [(OpD.mk p2.xKind ([]) ([]) r63.xLo r63.xHi p2.xMost)]) = l28.length + 1 := by simp only [List.length_append, List.length_cons, List.length_nil]
 refine Az rfl (WL.nil (bN (Fin.then ?_)))
 have H87 := H85.pk [0, 2]
 refine Wp.region (fw (.int .i64 ((k29 + 1 : Nat) : Int)) (Yl.int (e := IntKind.i64.wrap (((k29 : Nat) : Int) + 1)) yk (by rw [IntWalk.i64_in _ (by omega)]; omega)) (Mz rfl (WL.nil ?_)))
 have H88 := H87.pk [1, 0]
 exact Fin.round (A82, c83, (l28 ++ [(OpD.mk p2.xKind ([]) ([]) r63.xLo r63.xHi p2.xMost)]), k29 + 1) ⟨rfl, rfl, rfl, rfl, rfl, rfl, rfl, trivial⟩ (dm37.2 ⟨H88, by omega, by omega, et (hq38) (et (congrArg (fun q => owner_cutOp_L0 l0 p1 p2 q l28 k29) hd44) (et (ip h45) (et (bnd_of hr54) (et (bnd_of hr65) (ip h77)))))⟩) (by show l0.length - (k29 + 1) < l0.length - k29; omega)
 refine jF h77 (Wp.skip (bN (Fin.then ?_)))
 have H89 := H76.pk [0, 1]
 refine Wp.region (fw (.int .i64 ((k29 + 1 : Nat) : Int)) (Yl.int (e := IntKind.i64.wrap (((k29 : Nat) : Int) + 1)) yk (by rw [IntWalk.i64_in _ (by omega)]; omega)) (Mz rfl (WL.nil ?_)))
 have H90 := H89.pk [0, 1]
 exact Fin.round (A26, c27, l28, k29 + 1) ⟨rfl, rfl, rfl, rfl, rfl, rfl, rfl, trivial⟩ (dm37.2 ⟨H90, by omega, by omega, et (hq38) (et (congrArg (fun q => owner_cutOp_L0 l0 p1 p2 q l28 k29) hd44) (et (ip h45) (et (bnd_of hr54) (et (bnd_of hr65) (ifF h77)))))⟩) (by show l0.length - (k29 + 1) < l0.length - k29; omega)
 refine GY.do 12 rfl (by kernel_rfl) (Do.newP (cs := [.string ⟨List.toArray ([])⟩, .string ⟨List.toArray ([])⟩]) (t := 24) H57 rfl rfl (fun _ => by kernel_rfl) ?_)
 intro g91 w92 H93
 have H94 := H93.pk [1, 2, 0]
 refine ⟨.inr ⟨_, H94⟩, ?_⟩
 obtain ⟨⟨r100, r101⟩, hr102⟩ : ∃ q : RangeD × Bool, span_Meet (RangeD.mk p2.xLo p2.xHi) r53 = q := ⟨_, rfl⟩
 obtain ⟨D95, HP96, ro97, bk98, rr99⟩ := Own.enter0 H94
 refine GX.do 8 rfl (by kernel_rfl) (Do.call Try.call57 rfl (span_Meet_ok _ _ (RangeD.mk p2.xLo p2.xHi) r53 r100 r101 HP96 hr102) ?_)
 rintro _ w103 ⟨rfl, HQ104⟩
 have H105 := bk98 _ _ HQ104
 refine ⟨.inr ⟨_, H105⟩, ?_⟩
 refine GX.take (v := .tuple #[.agg (RangeD.cells r100).toArray, .bool r101]) (rs := []) 9 rfl (by kernel_rfl) (fun _ _ => Yl.move rfl) (GX.take (v := .agg (RangeD.cells r100).toArray) (rs := []) 10 rfl (by kernel_rfl) (fun _ _ => yk) (GX.take (v := .bool r101) (rs := []) 11 rfl (by kernel_rfl) (fun _ _ => yk) ?_))
 have H106 := H105.pk [2, 0, 1]
 refine GX.do0 13 rfl (by kernel_rfl) (Do.store (vs := (RangeD.cells r100)) (o := 0) H106 rfl rfl Try.sizeOf24 rfl rfl rfl rfl ?_)
 intro w107 H108
 have H109 := H108.pk [1, 2, 0]
 refine ⟨.inr ⟨_, H109⟩, ?_⟩
 refine GX.take (v := .bool r101) (rs := []) 14 rfl (by kernel_rfl) (fun _ _ => Yl.assign rfl) (GX.done (by kernel_rfl) (Fin.then (sr (Mn rfl ?_))))
 rcases Bool.eq_false_or_eq_true (r101) with h110 | h110
 refine jT h110 (Wp.region (Mz rfl (Kz (.pointer (some ⟨g21, 0, none⟩)) (Lz (.int .i64 p2.xKind) H109 0 Try.isAgg3 (Kz (.pointer (some ⟨g91, 0, none⟩)) (Lz (.string ⟨List.toArray r100.xLo⟩) H109 2 Try.isAgg9 (Kz (.pointer (some ⟨g91, 1, none⟩)) (Lz (.string ⟨List.toArray r100.xHi⟩) H109 2 Try.isAgg9 (Kz (.pointer (some ⟨g21, 5, none⟩)) (Lz (.int .i64 p2.xMost) H109 0 Try.isAgg3 (Kz (.agg #[.int .i64 p2.xKind, .string ⟨List.toArray ([])⟩, .string ⟨List.toArray ([])⟩, .string ⟨List.toArray r100.xLo⟩, .string ⟨List.toArray r100.xHi⟩, .int .i64 p2.xMost]) ?_)))))))))))
 refine nrw [.int .i64 p2.xKind, .string ⟨List.toArray ([])⟩, .string ⟨List.toArray ([])⟩, .string ⟨List.toArray r100.xLo⟩, .string ⟨List.toArray r100.xHi⟩, .int .i64 p2.xMost] 74 6 1 H109 ?_
 intro A111 w112 H113
 replace H113 := Own.reh (y := row A111 1 1 (List.flatMap OpD.cells ([(OpD.mk p2.xKind ([]) ([]) r100.xLo r100.xHi p2.xMost)])) 74 6) rfl H113
 have H114 := H113.pk [2, 0, 1, 3]
 refine WL.do rfl (Do.appendW (k := l28.length) (m := 1) (El41) H114 rfl rfl (src_of Try.underlying41 (H114.rds (i := 1) rfl) (flat_one OpD.one ([(OpD.mk p2.xKind ([]) ([]) r100.xLo r100.xHi p2.xMost)]))) rfl (by omega) (s := List.length (l28 ++ [(OpD.mk p2.xKind ([]) ([]) r100.xLo r100.xHi p2.xMost)])) (by first | omega | (simp only [List.length_append, List.length_cons, List.length_nil] <;> omega)) (List.flatMap_append).symm ?_)
 intro A115 c116 w117 H118
 have hl119 : List.length (l28 ++ [(OpD.mk p2.xKind ([]) ([]) r100.xLo r100.xHi p2.xMost)]) = l28.length + 1 := by simp only [List.length_append, List.length_cons, List.length_nil]
 refine Az rfl (WL.nil (bN (Fin.then ?_)))
 have H120 := H118.pk [0, 2]
 refine Wp.region (fw (.int .i64 ((k29 + 1 : Nat) : Int)) (Yl.int (e := IntKind.i64.wrap (((k29 : Nat) : Int) + 1)) yk (by rw [IntWalk.i64_in _ (by omega)]; omega)) (Mz rfl (WL.nil ?_)))
 have H121 := H120.pk [1, 0]
 exact Fin.round (A115, c116, (l28 ++ [(OpD.mk p2.xKind ([]) ([]) r100.xLo r100.xHi p2.xMost)]), k29 + 1) ⟨rfl, rfl, rfl, rfl, rfl, rfl, rfl, trivial⟩ (dm37.2 ⟨H121, by omega, by omega, et (hq38) (et (congrArg (fun q => owner_cutOp_L0 l0 p1 p2 q l28 k29) hd44) (et (ip h45) (et (bnd_of hr54) (et (bnd_of hr102) (ip h110)))))⟩) (by show l0.length - (k29 + 1) < l0.length - k29; omega)
 refine jF h110 (Wp.skip (bN (Fin.then ?_)))
 have H122 := H109.pk [0, 1]
 refine Wp.region (fw (.int .i64 ((k29 + 1 : Nat) : Int)) (Yl.int (e := IntKind.i64.wrap (((k29 : Nat) : Int) + 1)) yk (by rw [IntWalk.i64_in _ (by omega)]; omega)) (Mz rfl (WL.nil ?_)))
 have H123 := H122.pk [0, 1]
 exact Fin.round (A26, c27, l28, k29 + 1) ⟨rfl, rfl, rfl, rfl, rfl, rfl, rfl, trivial⟩ (dm37.2 ⟨H123, by omega, by omega, et (hq38) (et (congrArg (fun q => owner_cutOp_L0 l0 p1 p2 q l28 k29) hd44) (et (ip h45) (et (bnd_of hr54) (et (bnd_of hr102) (ifF h110)))))⟩) (by show l0.length - (k29 + 1) < l0.length - k29; omega)
 refine GY.do 12 rfl (by kernel_rfl) (Do.newP (cs := [.string ⟨List.toArray ([])⟩, .string ⟨List.toArray ([])⟩]) (t := 24) H47 rfl rfl (fun _ => by kernel_rfl) ?_)
 intro g124 w125 H126
 have H127 := H126.pk [1, 2, 0]
 refine ⟨.inr ⟨_, H127⟩, ?_⟩
 obtain ⟨r133, hr134⟩ : ∃ q, owner_rangeOf l0 ((k29 : Nat) : Int) = q := ⟨_, rfl⟩
 obtain ⟨D128, HP129, ro130, bk131, rr132⟩ := Own.enter0 H127
 refine GX.do 7 rfl (by kernel_rfl) (Do.call Try.call36 rfl (owner_rangeOf_ok _ _ A0 l0.length c0 l0 ((k29 : Nat) : Int) r133 HP129 (ro130 _ hx0) rfl (by omega) (by omega) hr134) ?_)
 rintro _ w135 ⟨rfl, HQ136⟩
 have H137 := bk131 _ _ HQ136
 refine ⟨.inr ⟨_, H137⟩, ?_⟩
 obtain ⟨⟨r143, r144⟩, hr145⟩ : ∃ q : RangeD × Bool, span_Meet (RangeD.mk p2.xLo p2.xHi) r133 = q := ⟨_, rfl⟩
 obtain ⟨D138, HP139, ro140, bk141, rr142⟩ := Own.enter0 H137
 refine GX.do 8 rfl (by kernel_rfl) (Do.call Try.call57 rfl (span_Meet_ok _ _ (RangeD.mk p2.xLo p2.xHi) r133 r143 r144 HP139 hr145) ?_)
 rintro _ w146 ⟨rfl, HQ147⟩
 have H148 := bk141 _ _ HQ147
 refine ⟨.inr ⟨_, H148⟩, ?_⟩
 refine GX.take (v := .tuple #[.agg (RangeD.cells r143).toArray, .bool r144]) (rs := []) 9 rfl (by kernel_rfl) (fun _ _ => Yl.move rfl) (GX.take (v := .agg (RangeD.cells r143).toArray) (rs := []) 10 rfl (by kernel_rfl) (fun _ _ => yk) (GX.take (v := .bool r144) (rs := []) 11 rfl (by kernel_rfl) (fun _ _ => yk) ?_))
 have H149 := H148.pk [2, 0, 1]
 refine GX.do0 13 rfl (by kernel_rfl) (Do.store (vs := (RangeD.cells r143)) (o := 0) H149 rfl rfl Try.sizeOf24 rfl rfl rfl rfl ?_)
 intro w150 H151
 have H152 := H151.pk [1, 2, 0]
 refine ⟨.inr ⟨_, H152⟩, ?_⟩
 refine GX.take (v := .bool r144) (rs := []) 14 rfl (by kernel_rfl) (fun _ _ => Yl.assign rfl) (GX.done (by kernel_rfl) (Fin.then (sr (Mn rfl ?_))))
 rcases Bool.eq_false_or_eq_true (r144) with h153 | h153
 refine jT h153 (Wp.region (Mz rfl (Kz (.pointer (some ⟨g21, 0, none⟩)) (Lz (.int .i64 p2.xKind) H152 0 Try.isAgg3 (Kz (.pointer (some ⟨g124, 0, none⟩)) (Lz (.string ⟨List.toArray r143.xLo⟩) H152 2 Try.isAgg9 (Kz (.pointer (some ⟨g124, 1, none⟩)) (Lz (.string ⟨List.toArray r143.xHi⟩) H152 2 Try.isAgg9 (Kz (.pointer (some ⟨g21, 5, none⟩)) (Lz (.int .i64 p2.xMost) H152 0 Try.isAgg3 (Kz (.agg #[.int .i64 p2.xKind, .string ⟨List.toArray ([])⟩, .string ⟨List.toArray ([])⟩, .string ⟨List.toArray r143.xLo⟩, .string ⟨List.toArray r143.xHi⟩, .int .i64 p2.xMost]) ?_)))))))))))
 refine nrw [.int .i64 p2.xKind, .string ⟨List.toArray ([])⟩, .string ⟨List.toArray ([])⟩, .string ⟨List.toArray r143.xLo⟩, .string ⟨List.toArray r143.xHi⟩, .int .i64 p2.xMost] 74 6 1 H152 ?_
 intro A154 w155 H156
 replace H156 := Own.reh (y := row A154 1 1 (List.flatMap OpD.cells ([(OpD.mk p2.xKind ([]) ([]) r143.xLo r143.xHi p2.xMost)])) 74 6) rfl H156
 have H157 := H156.pk [2, 0, 1, 3]
 refine WL.do rfl (Do.appendW (k := l28.length) (m := 1) (El41) H157 rfl rfl (src_of Try.underlying41 (H157.rds (i := 1) rfl) (flat_one OpD.one ([(OpD.mk p2.xKind ([]) ([]) r143.xLo r143.xHi p2.xMost)]))) rfl (by omega) (s := List.length (l28 ++ [(OpD.mk p2.xKind ([]) ([]) r143.xLo r143.xHi p2.xMost)])) (by first | omega | (simp only [List.length_append, List.length_cons, List.length_nil] <;> omega)) (List.flatMap_append).symm ?_)
 intro A158 c159 w160 H161
 have hl162 : List.length (l28 ++ [(OpD.mk p2.xKind ([]) ([]) r143.xLo r143.xHi p2.xMost)]) = l28.length + 1 := by simp only [List.length_append, List.length_cons, List.length_nil]
 refine Az rfl (WL.nil (bN (Fin.then ?_)))
 have H163 := H161.pk [0, 2]
 refine Wp.region (fw (.int .i64 ((k29 + 1 : Nat) : Int)) (Yl.int (e := IntKind.i64.wrap (((k29 : Nat) : Int) + 1)) yk (by rw [IntWalk.i64_in _ (by omega)]; omega)) (Mz rfl (WL.nil ?_)))
 have H164 := H163.pk [1, 0]
 exact Fin.round (A158, c159, (l28 ++ [(OpD.mk p2.xKind ([]) ([]) r143.xLo r143.xHi p2.xMost)]), k29 + 1) ⟨rfl, rfl, rfl, rfl, rfl, rfl, rfl, trivial⟩ (dm37.2 ⟨H164, by omega, by omega, et (hq38) (et (congrArg (fun q => owner_cutOp_L0 l0 p1 p2 q l28 k29) hd44) (et (ip h45) (et (bnd_of hr134) (et (bnd_of hr145) (ip h153)))))⟩) (by show l0.length - (k29 + 1) < l0.length - k29; omega)
 refine jF h153 (Wp.skip (bN (Fin.then ?_)))
 have H165 := H152.pk [0, 1]
 refine Wp.region (fw (.int .i64 ((k29 + 1 : Nat) : Int)) (Yl.int (e := IntKind.i64.wrap (((k29 : Nat) : Int) + 1)) yk (by rw [IntWalk.i64_in _ (by omega)]; omega)) (Mz rfl (WL.nil ?_)))
 have H166 := H165.pk [0, 1]
 exact Fin.round (A26, c27, l28, k29 + 1) ⟨rfl, rfl, rfl, rfl, rfl, rfl, rfl, trivial⟩ (dm37.2 ⟨H166, by omega, by omega, et (hq38) (et (congrArg (fun q => owner_cutOp_L0 l0 p1 p2 q l28 k29) hd44) (et (ip h45) (et (bnd_of hr134) (et (bnd_of hr145) (ifF h153)))))⟩) (by show l0.length - (k29 + 1) < l0.length - k29; omega)
 refine jT (dT h45) (Wp.exit (Fin.thenX (Fin.blockX (Fin.then (Wp.region (fw (.int .i64 ((k29 + 1 : Nat) : Int)) (Yl.int (e := IntKind.i64.wrap (((k29 : Nat) : Int) + 1)) yk (by rw [IntWalk.i64_in _ (by omega)]; omega)) (Mz rfl (WL.nil ?_))))))))
 have H167 := H33.pk [0, 1]
 exact Fin.round (A26, c27, l28, k29 + 1) ⟨rfl, rfl, rfl, rfl, rfl, rfl, rfl, trivial⟩ (dm37.2 ⟨H167, by omega, by omega, et (hq38) (et (congrArg (fun q => owner_cutOp_L0 l0 p1 p2 q l28 k29) hd44) (iN h45))⟩) (by show l0.length - (k29 + 1) < l0.length - k29; omega)
 refine jF (dF h41) (Wp.exit (Fin.thenX ?_))
 have hL168 : owner_cutOp_L0 l0 p1 p2 l0 ([]) 0 = l28 := et (hq38) (et (congrArg (fun q => owner_cutOp_L0 l0 p1 p2 q l28 k29) (drop_end (ls := l0) (i := k29) (by omega))) rfl)
 refine Fin.thenX (Fin.blockX (Fin.then (Wp.seq ?_)))
 have H169 := H33.pk [1]
 refine Wp.region (Mz rfl (An rfl (rt (rs ?_))))
 have H170 := H169.pk [0]
 obtain rfl : _ = l28 := hr.symm.trans (et (ip h24) (bnd_of hL168))
 exact ⟨A26, c27, rfl, H170, (by first | omega | (simp only [List.length_cons, List.length_nil]; omega))⟩
 refine Gz (.pointer (some ⟨g21, 0, none⟩)) (dT h24) (Gl (.int .i64 p2.xKind) (dT h24) H23 0 Try.isAgg3 (gw (.bool (decide (¬ (p2.xKind = 5)))) (dT h24) (Yl.bool (e := !(decide (p2.xKind = 5))) yk decide_not.symm) (fw (.bool (decide (¬ (p2.xKind = 5)))) (Yl.pickT rfl (dT h24) rfl) (nt ?_))))
 by_cases h171 : p2.xKind = 5
 refine jF (dF (not_not_intro h171)) (sk (Wp.seq (sr (Mz rfl (Kz (.int .i64 ((l0.length : Nat) : Int)) (Mn rfl (bo ?_)))))))
 have H172 : Own w D w22 [row none 0 0 (List.flatMap OpD.cells ([])) 74 6, blk g21 (OpD.cells p2) 74] := H23.free (row_nil 74 6)
 have H178 := H172.pk [1, 0]
 obtain ⟨I182, hI183⟩ : ∃ q : ((Option Addr) × Nat × (List OpD) × Nat) → World → Prop, q = fun (i : (Option Addr) × Nat × (List OpD) × Nat) w' => Own w D w' [blk g21 (OpD.cells p2) 74, row i.1 i.2.2.1.length i.2.1 (List.flatMap OpD.cells i.2.2.1) 74 6] ∧ (i.2.2.2 ≤ l0.length ∧ i.2.2.1.length ≤ i.2.2.2 ∧ owner_cutOp_L1 l0 p1 p2 l0 ([]) 0 = owner_cutOp_L1 l0 p1 p2 (List.drop i.2.2.2 l0) i.2.2.1 i.2.2.2) := ⟨_, rfl⟩
 have dm184 : ∀ {A173 : Option Addr} {c174 : Nat} {l175 : List OpD} {k176 : Nat} {w' : World}, I182 (A173, c174, l175, k176) w' ↔ Own w D w' [blk g21 (OpD.cells p2) 74, row A173 l175.length c174 (List.flatMap OpD.cells l175) 74 6] ∧ k176 ≤ l0.length ∧ l175.length ≤ k176 ∧ owner_cutOp_L1 l0 p1 p2 l0 ([]) 0 = owner_cutOp_L1 l0 p1 p2 (List.drop k176 l0) l175 k176 := by intros; subst hI183; exact Iff.rfl
 refine Wp.loop (fun i : (Option Addr) × Nat × (List OpD) × Nat => [(7, .slice i.1 i.2.2.1.length i.2.1), (36, .int .i64 ((i.2.2.2 : Nat) : Int)), (35, .int .i64 ((l0.length : Nat) : Int)), (6, .slice none 0 0), (5, .pointer (some ⟨g21, 0, none⟩)), (0, .slice A0 l0.length c0), (1, .int .i64 p1)]) I182 (fun i => l0.length - i.2.2.2) (none, 0, [], 0) ⟨rfl, rfl, rfl, rfl, rfl, rfl, rfl, trivial⟩ (dm184.2 ⟨H178, (show 0 ≤ l0.length ∧ 0 ≤ 0 ∧ owner_cutOp_L1 l0 p1 p2 l0 ([]) 0 = owner_cutOp_L1 l0 p1 p2 (List.drop 0 l0) ([]) 0 from ⟨by omega, by omega, rfl⟩)⟩) ?_
 rintro ⟨A173, c174, l175, k176⟩ w179 hf181
 show Wp _ _ _ [(7, .slice A173 l175.length c174), (36, .int .i64 ((k176 : Nat) : Int)), (35, .int .i64 ((l0.length : Nat) : Int)), (6, .slice none 0 0), (5, .pointer (some ⟨g21, 0, none⟩)), (0, .slice A0 l0.length c0), (1, .int .i64 p1)] _ _
 obtain ⟨H180, hi186, hi187, hq185⟩ := dm184.1 hf181
 refine sr (Kz (.bool (decide (((k176 : Nat) : Int) < ((l0.length : Nat) : Int)))) (nt (Wp.seq ?_)))
 by_cases h188 : ((k176 : Nat) : Int) < ((l0.length : Nat) : Int)
 obtain ⟨x189, hx190⟩ := rds_at (ls := l0) (i := k176) OwnerD.len (by decide) (H180.ro hx0) (by first | omega | (simp; done) | (simp; omega))
 have hd191 := drop_at hx190
 refine jT (dT h188) (sk (Wp.seq (bo (sr (Mz rfl (An rfl (Wp.seq (sr (Mz rfl (Mz rfl (fw (.pointer (some ⟨ab A0, ao A0 + k176 * 2, none⟩)) (Yl.indexAddr (El22) rfl rfl ((H180.ro hx0).addr (i := k176) (by omega)) (by omega)) (Kz (.pointer (some ⟨ab A0, ao A0 + k176 * 2 + 1, none⟩)) (fw (.int .i64 x189.xShard) (Yl.load rfl (Lds.one Try.isAgg3 (((H180.ro hx0).elem OwnerD.len hx190 (by decide)).at_ (k := 1) rfl))) (Mz rfl (fw (.bool (decide (¬ (x189.xShard = p1)))) (Yl.bool (e := !(decide (x189.xShard = p1))) yk decide_not.symm) (nt ?_))))))))))))))))
 by_cases h192 : x189.xShard = p1
 refine jF (dF (not_not_intro h192)) (sk (Wp.seq ?_))
 have H194 := H180.drew
 refine Wp.drawnX [] (fun W => ∃ L', Own w D W ([blk g21 (OpD.cells p2) 74, row A173 l175.length c174 (List.flatMap OpD.cells l175) 74 6] ++ L')) (by kernel_rfl) (by kernel_rfl) (NoP.then (NoP.block (NoP.then (NoP.then (NoP.block (NoP.then NoP.base)))))) ⟨_, H194⟩ ?_
 revert H194
 generalize World.drew w179 = w193
 intro H194
 refine GX.take (v := .pointer (some ⟨g21, 3, none⟩)) (rs := []) 0 rfl (by kernel_rfl) (fun _ _ => yk) (GX.take (v := .string ⟨List.toArray p2.xLo⟩) (rs := []) 1 rfl (by kernel_rfl) (fun _ ⟨_, H9⟩ => Yl.load rfl (Lds.one Try.isAgg9 (Cls.of (H9.cls (i := 0) rfl) rfl))) (GX.take (v := .pointer (some ⟨g21, 4, none⟩)) (rs := []) 2 rfl (by kernel_rfl) (fun _ _ => yk) (GX.take (v := .string ⟨List.toArray p2.xHi⟩) (rs := []) 3 rfl (by kernel_rfl) (fun _ ⟨_, H9⟩ => Yl.load rfl (Lds.one Try.isAgg9 (Cls.of (H9.cls (i := 0) rfl) rfl))) (GX.take (v := .agg #[.string ⟨List.toArray p2.xLo⟩, .string ⟨List.toArray p2.xHi⟩]) (rs := []) 4 rfl (by kernel_rfl) (fun _ _ => yk) (GX.take (v := .slice A0 l0.length c0) (rs := []) 5 rfl (by kernel_rfl) (fun _ _ => Yl.move rfl) (GX.take (v := .int .i64 ((k176 : Nat) : Int)) (rs := []) 6 rfl (by kernel_rfl) (fun _ _ => Yl.move rfl) ?_))))))
 refine GX.any2 7 12 (by kernel_rfl) ?_ ?_
 obtain ⟨r200, hr201⟩ : ∃ q, owner_rangeOf l0 ((k176 : Nat) : Int) = q := ⟨_, rfl⟩
 obtain ⟨D195, HP196, ro197, bk198, rr199⟩ := Own.enter0 H194
 refine GY.do 7 rfl (by kernel_rfl) (Do.call Try.call36 rfl (owner_rangeOf_ok _ _ A0 l0.length c0 l0 ((k176 : Nat) : Int) r200 HP196 (ro197 _ hx0) rfl (by omega) (by omega) hr201) ?_)
 rintro _ w202 ⟨rfl, HQ203⟩
 have H204 := bk198 _ _ HQ203
 refine ⟨.inr ⟨_, H204⟩, ?_⟩
 refine GX.any2 8 12 (by kernel_rfl) ?_ ?_
 obtain ⟨⟨r210, r211⟩, hr212⟩ : ∃ q : RangeD × Bool, span_Meet (RangeD.mk p2.xLo p2.xHi) r200 = q := ⟨_, rfl⟩
 obtain ⟨D205, HP206, ro207, bk208, rr209⟩ := Own.enter0 H204
 refine GY.do 8 rfl (by kernel_rfl) (Do.call Try.call57 rfl (span_Meet_ok _ _ (RangeD.mk p2.xLo p2.xHi) r200 r210 r211 HP206 hr212) ?_)
 rintro _ w213 ⟨rfl, HQ214⟩
 have H215 := bk208 _ _ HQ214
 refine ⟨.inr ⟨_, H215⟩, ?_⟩
 refine GX.take (v := .tuple #[.agg (RangeD.cells r210).toArray, .bool r211]) (rs := []) 9 rfl (by kernel_rfl) (fun _ _ => Yl.move rfl) (GX.take (v := .agg (RangeD.cells r210).toArray) (rs := []) 10 rfl (by kernel_rfl) (fun _ _ => yk) (GX.take (v := .bool r211) (rs := []) 11 rfl (by kernel_rfl) (fun _ _ => yk) ?_))
 refine GX.do 12 rfl (by kernel_rfl) (Do.newP (cs := [.string ⟨List.toArray ([])⟩, .string ⟨List.toArray ([])⟩]) (t := 24) H215 rfl rfl (fun _ => by kernel_rfl) ?_)
 intro g216 w217 H218
 have H219 := H218.pk [1, 2, 0]
 refine ⟨.inr ⟨_, H219⟩, ?_⟩
 have H220 := H219.pk [2, 0, 1]
 refine GX.do0 13 rfl (by kernel_rfl) (Do.store (vs := (RangeD.cells r210)) (o := 0) H220 rfl rfl Try.sizeOf24 rfl rfl rfl rfl ?_)
 intro w221 H222
 have H223 := H222.pk [1, 2, 0]
 refine ⟨.inr ⟨_, H223⟩, ?_⟩
 refine GX.take (v := .bool r211) (rs := []) 14 rfl (by kernel_rfl) (fun _ _ => Yl.assign rfl) (GX.done (by kernel_rfl) (Fin.then (sr (Mn rfl ?_))))
 rcases Bool.eq_false_or_eq_true (r211) with h224 | h224
 refine jT h224 (Wp.region (Mz rfl (Kz (.pointer (some ⟨g21, 0, none⟩)) (Lz (.int .i64 p2.xKind) H223 0 Try.isAgg3 (Kz (.pointer (some ⟨g216, 0, none⟩)) (Lz (.string ⟨List.toArray r210.xLo⟩) H223 2 Try.isAgg9 (Kz (.pointer (some ⟨g216, 1, none⟩)) (Lz (.string ⟨List.toArray r210.xHi⟩) H223 2 Try.isAgg9 (Kz (.pointer (some ⟨g21, 5, none⟩)) (Lz (.int .i64 p2.xMost) H223 0 Try.isAgg3 (Kz (.agg #[.int .i64 p2.xKind, .string ⟨List.toArray ([])⟩, .string ⟨List.toArray ([])⟩, .string ⟨List.toArray r210.xLo⟩, .string ⟨List.toArray r210.xHi⟩, .int .i64 p2.xMost]) ?_)))))))))))
 refine nrw [.int .i64 p2.xKind, .string ⟨List.toArray ([])⟩, .string ⟨List.toArray ([])⟩, .string ⟨List.toArray r210.xLo⟩, .string ⟨List.toArray r210.xHi⟩, .int .i64 p2.xMost] 74 6 1 H223 ?_
 intro A225 w226 H227
 replace H227 := Own.reh (y := row A225 1 1 (List.flatMap OpD.cells ([(OpD.mk p2.xKind ([]) ([]) r210.xLo r210.xHi p2.xMost)])) 74 6) rfl H227
 have H228 := H227.pk [2, 0, 1, 3]
 refine WL.do rfl (Do.appendW (k := l175.length) (m := 1) (El41) H228 rfl rfl (src_of Try.underlying41 (H228.rds (i := 1) rfl) (flat_one OpD.one ([(OpD.mk p2.xKind ([]) ([]) r210.xLo r210.xHi p2.xMost)]))) rfl (by omega) (s := List.length (l175 ++ [(OpD.mk p2.xKind ([]) ([]) r210.xLo r210.xHi p2.xMost)])) (by first | omega | (simp only [List.length_append, List.length_cons, List.length_nil] <;> omega)) (List.flatMap_append).symm ?_)
 intro A229 c230 w231 H232
 have hl233 : List.length (l175 ++ [(OpD.mk p2.xKind ([]) ([]) r210.xLo r210.xHi p2.xMost)]) = l175.length + 1 := by simp only [List.length_append, List.length_cons, List.length_nil]
 refine Az rfl (WL.nil (bN (Fin.then ?_)))
 have H234 := H232.pk [0, 2]
 refine Wp.region (fw (.int .i64 ((k176 + 1 : Nat) : Int)) (Yl.int (e := IntKind.i64.wrap (((k176 : Nat) : Int) + 1)) yk (by rw [IntWalk.i64_in _ (by omega)]; omega)) (Mz rfl (WL.nil ?_)))
 have H235 := H234.pk [1, 0]
 exact Fin.round (A229, c230, (l175 ++ [(OpD.mk p2.xKind ([]) ([]) r210.xLo r210.xHi p2.xMost)]), k176 + 1) ⟨rfl, rfl, rfl, rfl, rfl, rfl, rfl, trivial⟩ (dm184.2 ⟨H235, by omega, by omega, et (hq185) (et (congrArg (fun q => owner_cutOp_L1 l0 p1 p2 q l175 k176) hd191) (et (ip h192) (et (bnd_of hr201) (et (bnd_of hr212) (ip h224)))))⟩) (by show l0.length - (k176 + 1) < l0.length - k176; omega)
 refine jF h224 (Wp.skip (bN (Fin.then ?_)))
 have H236 := H223.pk [0, 1]
 refine Wp.region (fw (.int .i64 ((k176 + 1 : Nat) : Int)) (Yl.int (e := IntKind.i64.wrap (((k176 : Nat) : Int) + 1)) yk (by rw [IntWalk.i64_in _ (by omega)]; omega)) (Mz rfl (WL.nil ?_)))
 have H237 := H236.pk [0, 1]
 exact Fin.round (A173, c174, l175, k176 + 1) ⟨rfl, rfl, rfl, rfl, rfl, rfl, rfl, trivial⟩ (dm184.2 ⟨H237, by omega, by omega, et (hq185) (et (congrArg (fun q => owner_cutOp_L1 l0 p1 p2 q l175 k176) hd191) (et (ip h192) (et (bnd_of hr201) (et (bnd_of hr212) (ifF h224)))))⟩) (by show l0.length - (k176 + 1) < l0.length - k176; omega)
 refine GY.do 12 rfl (by kernel_rfl) (Do.newP (cs := [.string ⟨List.toArray ([])⟩, .string ⟨List.toArray ([])⟩]) (t := 24) H204 rfl rfl (fun _ => by kernel_rfl) ?_)
 intro g238 w239 H240
 have H241 := H240.pk [1, 2, 0]
 refine ⟨.inr ⟨_, H241⟩, ?_⟩
 obtain ⟨⟨r247, r248⟩, hr249⟩ : ∃ q : RangeD × Bool, span_Meet (RangeD.mk p2.xLo p2.xHi) r200 = q := ⟨_, rfl⟩
 obtain ⟨D242, HP243, ro244, bk245, rr246⟩ := Own.enter0 H241
 refine GX.do 8 rfl (by kernel_rfl) (Do.call Try.call57 rfl (span_Meet_ok _ _ (RangeD.mk p2.xLo p2.xHi) r200 r247 r248 HP243 hr249) ?_)
 rintro _ w250 ⟨rfl, HQ251⟩
 have H252 := bk245 _ _ HQ251
 refine ⟨.inr ⟨_, H252⟩, ?_⟩
 refine GX.take (v := .tuple #[.agg (RangeD.cells r247).toArray, .bool r248]) (rs := []) 9 rfl (by kernel_rfl) (fun _ _ => Yl.move rfl) (GX.take (v := .agg (RangeD.cells r247).toArray) (rs := []) 10 rfl (by kernel_rfl) (fun _ _ => yk) (GX.take (v := .bool r248) (rs := []) 11 rfl (by kernel_rfl) (fun _ _ => yk) ?_))
 have H253 := H252.pk [2, 0, 1]
 refine GX.do0 13 rfl (by kernel_rfl) (Do.store (vs := (RangeD.cells r247)) (o := 0) H253 rfl rfl Try.sizeOf24 rfl rfl rfl rfl ?_)
 intro w254 H255
 have H256 := H255.pk [1, 2, 0]
 refine ⟨.inr ⟨_, H256⟩, ?_⟩
 refine GX.take (v := .bool r248) (rs := []) 14 rfl (by kernel_rfl) (fun _ _ => Yl.assign rfl) (GX.done (by kernel_rfl) (Fin.then (sr (Mn rfl ?_))))
 rcases Bool.eq_false_or_eq_true (r248) with h257 | h257
 refine jT h257 (Wp.region (Mz rfl (Kz (.pointer (some ⟨g21, 0, none⟩)) (Lz (.int .i64 p2.xKind) H256 0 Try.isAgg3 (Kz (.pointer (some ⟨g238, 0, none⟩)) (Lz (.string ⟨List.toArray r247.xLo⟩) H256 2 Try.isAgg9 (Kz (.pointer (some ⟨g238, 1, none⟩)) (Lz (.string ⟨List.toArray r247.xHi⟩) H256 2 Try.isAgg9 (Kz (.pointer (some ⟨g21, 5, none⟩)) (Lz (.int .i64 p2.xMost) H256 0 Try.isAgg3 (Kz (.agg #[.int .i64 p2.xKind, .string ⟨List.toArray ([])⟩, .string ⟨List.toArray ([])⟩, .string ⟨List.toArray r247.xLo⟩, .string ⟨List.toArray r247.xHi⟩, .int .i64 p2.xMost]) ?_)))))))))))
 refine nrw [.int .i64 p2.xKind, .string ⟨List.toArray ([])⟩, .string ⟨List.toArray ([])⟩, .string ⟨List.toArray r247.xLo⟩, .string ⟨List.toArray r247.xHi⟩, .int .i64 p2.xMost] 74 6 1 H256 ?_
 intro A258 w259 H260
 replace H260 := Own.reh (y := row A258 1 1 (List.flatMap OpD.cells ([(OpD.mk p2.xKind ([]) ([]) r247.xLo r247.xHi p2.xMost)])) 74 6) rfl H260
 have H261 := H260.pk [2, 0, 1, 3]
 refine WL.do rfl (Do.appendW (k := l175.length) (m := 1) (El41) H261 rfl rfl (src_of Try.underlying41 (H261.rds (i := 1) rfl) (flat_one OpD.one ([(OpD.mk p2.xKind ([]) ([]) r247.xLo r247.xHi p2.xMost)]))) rfl (by omega) (s := List.length (l175 ++ [(OpD.mk p2.xKind ([]) ([]) r247.xLo r247.xHi p2.xMost)])) (by first | omega | (simp only [List.length_append, List.length_cons, List.length_nil] <;> omega)) (List.flatMap_append).symm ?_)
 intro A262 c263 w264 H265
 have hl266 : List.length (l175 ++ [(OpD.mk p2.xKind ([]) ([]) r247.xLo r247.xHi p2.xMost)]) = l175.length + 1 := by simp only [List.length_append, List.length_cons, List.length_nil]
 refine Az rfl (WL.nil (bN (Fin.then ?_)))
 have H267 := H265.pk [0, 2]
 refine Wp.region (fw (.int .i64 ((k176 + 1 : Nat) : Int)) (Yl.int (e := IntKind.i64.wrap (((k176 : Nat) : Int) + 1)) yk (by rw [IntWalk.i64_in _ (by omega)]; omega)) (Mz rfl (WL.nil ?_)))
 have H268 := H267.pk [1, 0]
 exact Fin.round (A262, c263, (l175 ++ [(OpD.mk p2.xKind ([]) ([]) r247.xLo r247.xHi p2.xMost)]), k176 + 1) ⟨rfl, rfl, rfl, rfl, rfl, rfl, rfl, trivial⟩ (dm184.2 ⟨H268, by omega, by omega, et (hq185) (et (congrArg (fun q => owner_cutOp_L1 l0 p1 p2 q l175 k176) hd191) (et (ip h192) (et (bnd_of hr201) (et (bnd_of hr249) (ip h257)))))⟩) (by show l0.length - (k176 + 1) < l0.length - k176; omega)
 refine jF h257 (Wp.skip (bN (Fin.then ?_)))
 have H269 := H256.pk [0, 1]
 refine Wp.region (fw (.int .i64 ((k176 + 1 : Nat) : Int)) (Yl.int (e := IntKind.i64.wrap (((k176 : Nat) : Int) + 1)) yk (by rw [IntWalk.i64_in _ (by omega)]; omega)) (Mz rfl (WL.nil ?_)))
 have H270 := H269.pk [0, 1]
 exact Fin.round (A173, c174, l175, k176 + 1) ⟨rfl, rfl, rfl, rfl, rfl, rfl, rfl, trivial⟩ (dm184.2 ⟨H270, by omega, by omega, et (hq185) (et (congrArg (fun q => owner_cutOp_L1 l0 p1 p2 q l175 k176) hd191) (et (ip h192) (et (bnd_of hr201) (et (bnd_of hr249) (ifF h257)))))⟩) (by show l0.length - (k176 + 1) < l0.length - k176; omega)
 refine GY.do 12 rfl (by kernel_rfl) (Do.newP (cs := [.string ⟨List.toArray ([])⟩, .string ⟨List.toArray ([])⟩]) (t := 24) H194 rfl rfl (fun _ => by kernel_rfl) ?_)
 intro g271 w272 H273
 have H274 := H273.pk [1, 2, 0]
 refine ⟨.inr ⟨_, H274⟩, ?_⟩
 obtain ⟨r280, hr281⟩ : ∃ q, owner_rangeOf l0 ((k176 : Nat) : Int) = q := ⟨_, rfl⟩
 obtain ⟨D275, HP276, ro277, bk278, rr279⟩ := Own.enter0 H274
 refine GX.do 7 rfl (by kernel_rfl) (Do.call Try.call36 rfl (owner_rangeOf_ok _ _ A0 l0.length c0 l0 ((k176 : Nat) : Int) r280 HP276 (ro277 _ hx0) rfl (by omega) (by omega) hr281) ?_)
 rintro _ w282 ⟨rfl, HQ283⟩
 have H284 := bk278 _ _ HQ283
 refine ⟨.inr ⟨_, H284⟩, ?_⟩
 obtain ⟨⟨r290, r291⟩, hr292⟩ : ∃ q : RangeD × Bool, span_Meet (RangeD.mk p2.xLo p2.xHi) r280 = q := ⟨_, rfl⟩
 obtain ⟨D285, HP286, ro287, bk288, rr289⟩ := Own.enter0 H284
 refine GX.do 8 rfl (by kernel_rfl) (Do.call Try.call57 rfl (span_Meet_ok _ _ (RangeD.mk p2.xLo p2.xHi) r280 r290 r291 HP286 hr292) ?_)
 rintro _ w293 ⟨rfl, HQ294⟩
 have H295 := bk288 _ _ HQ294
 refine ⟨.inr ⟨_, H295⟩, ?_⟩
 refine GX.take (v := .tuple #[.agg (RangeD.cells r290).toArray, .bool r291]) (rs := []) 9 rfl (by kernel_rfl) (fun _ _ => Yl.move rfl) (GX.take (v := .agg (RangeD.cells r290).toArray) (rs := []) 10 rfl (by kernel_rfl) (fun _ _ => yk) (GX.take (v := .bool r291) (rs := []) 11 rfl (by kernel_rfl) (fun _ _ => yk) ?_))
 have H296 := H295.pk [2, 0, 1]
 refine GX.do0 13 rfl (by kernel_rfl) (Do.store (vs := (RangeD.cells r290)) (o := 0) H296 rfl rfl Try.sizeOf24 rfl rfl rfl rfl ?_)
 intro w297 H298
 have H299 := H298.pk [1, 2, 0]
 refine ⟨.inr ⟨_, H299⟩, ?_⟩
 refine GX.take (v := .bool r291) (rs := []) 14 rfl (by kernel_rfl) (fun _ _ => Yl.assign rfl) (GX.done (by kernel_rfl) (Fin.then (sr (Mn rfl ?_))))
 rcases Bool.eq_false_or_eq_true (r291) with h300 | h300
 refine jT h300 (Wp.region (Mz rfl (Kz (.pointer (some ⟨g21, 0, none⟩)) (Lz (.int .i64 p2.xKind) H299 0 Try.isAgg3 (Kz (.pointer (some ⟨g271, 0, none⟩)) (Lz (.string ⟨List.toArray r290.xLo⟩) H299 2 Try.isAgg9 (Kz (.pointer (some ⟨g271, 1, none⟩)) (Lz (.string ⟨List.toArray r290.xHi⟩) H299 2 Try.isAgg9 (Kz (.pointer (some ⟨g21, 5, none⟩)) (Lz (.int .i64 p2.xMost) H299 0 Try.isAgg3 (Kz (.agg #[.int .i64 p2.xKind, .string ⟨List.toArray ([])⟩, .string ⟨List.toArray ([])⟩, .string ⟨List.toArray r290.xLo⟩, .string ⟨List.toArray r290.xHi⟩, .int .i64 p2.xMost]) ?_)))))))))))
 refine nrw [.int .i64 p2.xKind, .string ⟨List.toArray ([])⟩, .string ⟨List.toArray ([])⟩, .string ⟨List.toArray r290.xLo⟩, .string ⟨List.toArray r290.xHi⟩, .int .i64 p2.xMost] 74 6 1 H299 ?_
 intro A301 w302 H303
 replace H303 := Own.reh (y := row A301 1 1 (List.flatMap OpD.cells ([(OpD.mk p2.xKind ([]) ([]) r290.xLo r290.xHi p2.xMost)])) 74 6) rfl H303
 have H304 := H303.pk [2, 0, 1, 3]
 refine WL.do rfl (Do.appendW (k := l175.length) (m := 1) (El41) H304 rfl rfl (src_of Try.underlying41 (H304.rds (i := 1) rfl) (flat_one OpD.one ([(OpD.mk p2.xKind ([]) ([]) r290.xLo r290.xHi p2.xMost)]))) rfl (by omega) (s := List.length (l175 ++ [(OpD.mk p2.xKind ([]) ([]) r290.xLo r290.xHi p2.xMost)])) (by first | omega | (simp only [List.length_append, List.length_cons, List.length_nil] <;> omega)) (List.flatMap_append).symm ?_)
 intro A305 c306 w307 H308
 have hl309 : List.length (l175 ++ [(OpD.mk p2.xKind ([]) ([]) r290.xLo r290.xHi p2.xMost)]) = l175.length + 1 := by simp only [List.length_append, List.length_cons, List.length_nil]
 refine Az rfl (WL.nil (bN (Fin.then ?_)))
 have H310 := H308.pk [0, 2]
 refine Wp.region (fw (.int .i64 ((k176 + 1 : Nat) : Int)) (Yl.int (e := IntKind.i64.wrap (((k176 : Nat) : Int) + 1)) yk (by rw [IntWalk.i64_in _ (by omega)]; omega)) (Mz rfl (WL.nil ?_)))
 have H311 := H310.pk [1, 0]
 exact Fin.round (A305, c306, (l175 ++ [(OpD.mk p2.xKind ([]) ([]) r290.xLo r290.xHi p2.xMost)]), k176 + 1) ⟨rfl, rfl, rfl, rfl, rfl, rfl, rfl, trivial⟩ (dm184.2 ⟨H311, by omega, by omega, et (hq185) (et (congrArg (fun q => owner_cutOp_L1 l0 p1 p2 q l175 k176) hd191) (et (ip h192) (et (bnd_of hr281) (et (bnd_of hr292) (ip h300)))))⟩) (by show l0.length - (k176 + 1) < l0.length - k176; omega)
 refine jF h300 (Wp.skip (bN (Fin.then ?_)))
 have H312 := H299.pk [0, 1]
 refine Wp.region (fw (.int .i64 ((k176 + 1 : Nat) : Int)) (Yl.int (e := IntKind.i64.wrap (((k176 : Nat) : Int) + 1)) yk (by rw [IntWalk.i64_in _ (by omega)]; omega)) (Mz rfl (WL.nil ?_)))
 have H313 := H312.pk [0, 1]
 exact Fin.round (A173, c174, l175, k176 + 1) ⟨rfl, rfl, rfl, rfl, rfl, rfl, rfl, trivial⟩ (dm184.2 ⟨H313, by omega, by omega, et (hq185) (et (congrArg (fun q => owner_cutOp_L1 l0 p1 p2 q l175 k176) hd191) (et (ip h192) (et (bnd_of hr281) (et (bnd_of hr292) (ifF h300)))))⟩) (by show l0.length - (k176 + 1) < l0.length - k176; omega)
 refine jT (dT h192) (Wp.exit (Fin.thenX (Fin.blockX (Fin.then (Wp.region (fw (.int .i64 ((k176 + 1 : Nat) : Int)) (Yl.int (e := IntKind.i64.wrap (((k176 : Nat) : Int) + 1)) yk (by rw [IntWalk.i64_in _ (by omega)]; omega)) (Mz rfl (WL.nil ?_))))))))
 have H314 := H180.pk [0, 1]
 exact Fin.round (A173, c174, l175, k176 + 1) ⟨rfl, rfl, rfl, rfl, rfl, rfl, rfl, trivial⟩ (dm184.2 ⟨H314, by omega, by omega, et (hq185) (et (congrArg (fun q => owner_cutOp_L1 l0 p1 p2 q l175 k176) hd191) (iN h192))⟩) (by show l0.length - (k176 + 1) < l0.length - k176; omega)
 refine jF (dF h188) (Wp.exit (Fin.thenX ?_))
 have hL315 : owner_cutOp_L1 l0 p1 p2 l0 ([]) 0 = l175 := et (hq185) (et (congrArg (fun q => owner_cutOp_L1 l0 p1 p2 q l175 k176) (drop_end (ls := l0) (i := k176) (by omega))) rfl)
 refine Fin.thenX (Fin.blockX (Fin.then (Wp.seq ?_)))
 have H316 := H180.pk [1]
 refine Wp.region (Mz rfl (An rfl (rt (rs ?_))))
 have H317 := H316.pk [0]
 obtain rfl : _ = l175 := hr.symm.trans (et (iN h24) (et (ip h171) (bnd_of hL315)))
 exact ⟨A173, c174, rfl, H317, (by first | omega | (simp only [List.length_cons, List.length_nil]; omega))⟩
 refine jT (dT h171) (Wp.seq (sr (Mz rfl (Mz rfl (Kz (.pointer (some ⟨g21, 1, none⟩)) (Lz (.string ⟨List.toArray p2.xKey⟩) H23 0 Try.isAgg9 ?_))))))
 obtain ⟨r323, hr324⟩ : ∃ q, owner_place l0 p2.xKey = q := ⟨_, rfl⟩
 obtain ⟨D318, HP319, ro320, bk321, rr322⟩ := Own.enter0 H23
 refine cl Try.call33 (owner_place_ok _ _ A0 l0.length c0 l0 p2.xKey r323 HP319 (ro320 _ hx0) rfl (by omega) (by first | omega | (simp only [List.length_cons, List.length_nil]; omega)) hr324) ?_
 rintro _ w325 ⟨rfl, HQ326, hk328⟩
 have H327 := bk321 _ _ HQ326
 replace hk328 : 0 ≤ r323 ∧ r323 < ((l0.length : Nat) : Int) := hk328
 obtain ⟨x329, hx330⟩ := rds_at (ls := l0) (i := Int.toNat r323) OwnerD.len (by decide) (H327.ro hx0) (by first | omega | (simp; done) | (simp; omega))
 refine fw (.pointer (some ⟨ab A0, ao A0 + (Int.toNat r323) * 2, none⟩)) (Yl.indexAddr (El22) rfl (ev_nat (r := r323) rfl (by omega)) ((H327.ro hx0).addr (i := Int.toNat r323) (by omega)) (by omega)) (Kz (.pointer (some ⟨ab A0, ao A0 + (Int.toNat r323) * 2 + 1, none⟩)) (fw (.int .i64 x329.xShard) (Yl.load rfl (Lds.one Try.isAgg3 (((H327.ro hx0).elem OwnerD.len hx330 (by decide)).at_ (k := 1) rfl))) (Mz rfl (Kz (.bool (decide (x329.xShard = p1))) (nt ?_)))))
 obtain ⟨I334, hI335⟩ : ∃ q : ((Option Addr) × Nat × (List OpD)) → World → Prop, q = fun (i : (Option Addr) × Nat × (List OpD)) w' => Own w D w' [blk g21 (OpD.cells p2) 74, row i.1 i.2.2.length i.2.1 (List.flatMap OpD.cells i.2.2) 74 6] ∧ (0 ≤ i.2.2.length ∧ i.2.2.length ≤ 1 ∧ (if x329.xShard = p1 then [p2] else []) = i.2.2) := ⟨_, rfl⟩
 have dm336 : ∀ {A331 : Option Addr} {c332 : Nat} {l333 : List OpD} {w' : World}, I334 (A331, c332, l333) w' ↔ Own w D w' [blk g21 (OpD.cells p2) 74, row A331 l333.length c332 (List.flatMap OpD.cells l333) 74 6] ∧ 0 ≤ l333.length ∧ l333.length ≤ 1 ∧ (if x329.xShard = p1 then [p2] else []) = l333 := by intros; subst hI335; exact Iff.rfl
 refine Wp.joinT (fun i : (Option Addr) × Nat × (List OpD) => [(7, .slice i.1 i.2.2.length i.2.1), (6, .slice none 0 0), (5, .pointer (some ⟨g21, 0, none⟩)), (0, .slice A0 l0.length c0), (1, .int .i64 p1)]) I334 ?_ ?_
 by_cases h337 : x329.xShard = p1
 refine jT (dT h337) (Wp.region (Mz rfl (La (OpD.cells p2) H327 0 Try.isAgg74 Try.sizeOf74 ?_)))
 refine nrw (OpD.cells p2) 74 6 1 H327 ?_
 intro A338 w339 H340
 replace H340 := Own.reh (y := row A338 1 1 (List.flatMap OpD.cells ([p2])) 74 6) rfl H340
 have H341 : Own w D w339 [row none 0 0 (List.flatMap OpD.cells ([])) 74 6, row A338 1 1 (List.flatMap OpD.cells ([p2])) 74 6, blk g21 (OpD.cells p2) 74] := H340.free (row_nil 74 6)
 refine WL.do rfl (Do.appendW (k := 0) (m := 1) (El41) H341 rfl rfl (src_of Try.underlying41 (H341.rds (i := 1) rfl) (flat_one OpD.one ([p2]))) rfl (by omega) (s := 1) (by omega) rfl ?_)
 intro A342 c343 w344 H345
 refine Az rfl (WL.nil ?_)
 have H346 := H345.pk [2, 0]
 exact Fin.join (A342, c343, [p2]) ⟨rfl, rfl, rfl, rfl, rfl, trivial⟩ (dm336.2 ⟨H346, (show 0 ≤ List.length ([p2]) ∧ List.length ([p2]) ≤ 1 ∧ (if x329.xShard = p1 then [p2] else []) = ([p2]) from ⟨by omega, by first | omega | exact Nat.le_refl _ | exact Nat.zero_le _, ip h337⟩)⟩)
 refine jF (dF h337) (Wp.skip ?_)
 have H347 : Own w D w325 [row none 0 0 (List.flatMap OpD.cells ([])) 74 6, blk g21 (OpD.cells p2) 74] := H327.free (row_nil 74 6)
 have H348 := H347.pk [1, 0]
 exact Fin.join (none, 0, []) ⟨rfl, rfl, rfl, rfl, rfl, trivial⟩ (dm336.2 ⟨H348, (show 0 ≤ List.length ([]) ∧ 0 ≤ 1 ∧ (if x329.xShard = p1 then [p2] else []) = ([]) from ⟨by omega, by first | omega | exact Nat.le_refl _ | exact Nat.zero_le _, iN h337⟩)⟩)
 rintro ⟨A331, c332, l333⟩ w349 hf351
 show Wp _ _ _ [(7, .slice A331 l333.length c332), (6, .slice none 0 0), (5, .pointer (some ⟨g21, 0, none⟩)), (0, .slice A0 l0.length c0), (1, .int .i64 p1)] _ _
 obtain ⟨H350, hi353, hi354, hj352⟩ := dm336.1 hf351
 refine sr (Mz rfl (An rfl (rt (tR (rs ?_)))))
 have H355 := H350.pk [1]
 obtain rfl : _ = l333 := hr.symm.trans (et (iN h24) (et (iN h171) (et (bnd_of hr324) (et (bnd_of (getD_of hx330)) (bnd_of hj352)))))
 exact ⟨A331, c332, rfl, H355, (by first | omega | (simp only [List.length_cons, List.length_nil]; omega))⟩
def math_bits_Mul64 (p1 : Nat) : Nat × Nat :=
 (((0 * (p1 / 4294967296)) + (((0 * (p1 % 4294967296)) + ((1 * (p1 % 4294967296)) / 4294967296)) / 4294967296)) + (((((0 * (p1 % 4294967296)) + ((1 * (p1 % 4294967296)) / 4294967296)) % 4294967296) + (1 * (p1 / 4294967296))) / 4294967296), 1 * p1)
set_option maxRecDepth 100000 in
theorem math_bits_Mul64_ok (w : World) (D : Nat → Prop) (p0 : Int) (p1 : Nat) (r0 : Nat) (r1 : Nat) (H : Own w D w []) (hp0 : p0 = 1) (hh0 : p1 ≤ 9223372036854775807) (hr : math_bits_Mul64 p1 = (r0, r1)) :
    Calls Try.prog 87 #[.int .u64 p0, .int .u64 ((p1 : Nat) : Int)] w (Ret fun v w' => v = .tuple #[.int .u64 ((r0 : Nat) : Int), .int .u64 ((r1 : Nat) : Int)] ∧ Own w D w' [] ∧ (r0 = 0 ∧ r1 = p1)) := by
 subst hp0
 refine Calls.body (args := [.int .u64 1, .int .u64 ((p1 : Nat) : Int)]) Try.func87 rfl rfl rfl ?_
 show Wp _ _ _ [(0, .int .u64 1), (1, .int .u64 ((p1 : Nat) : Int))] _ _
 refine sr (Az rfl (Ar rfl (Mz rfl (Kz (.int .u64 1) (Ar rfl (Mz rfl (Kz (.int .u64 0) (Ar rfl (Mz rfl (fw (.int .u64 ((p1 % 4294967296 : Nat) : Int)) (Yl.int (e := IntKind.u64.wrap (((BitVec.ofInt 64 ((p1 : Nat) : Int) &&& BitVec.ofInt 64 4294967295).toNat : Nat) : Int)) yk (and_mask _ 32 (by decide) _ (by decide))) (Ar rfl (Mz rfl (fw (.int .u64 ((p1 / 4294967296 : Nat) : Int)) (Yl.int (e := Int.fdiv ((p1 : Nat) : Int) 4294967296) yk (shr_nat _ 32 _ (by decide))) (Ar rfl (Mz rfl (Mz rfl (fw (.int .u64 ((1 * (p1 % 4294967296) : Nat) : Int)) (Yl.int (e := IntKind.u64.wrap (1 * ((p1 % 4294967296 : Nat) : Int))) yk (by rw [IntWalk.u64_in _ (by omega)]; omega)) (Az rfl ?_))))))))))))))))))
 refine ns (Mz rfl (Mz rfl (fw (.int .u64 ((0 * (p1 % 4294967296) : Nat) : Int)) (Yl.int (e := IntKind.u64.wrap (0 * ((p1 % 4294967296 : Nat) : Int))) yk (by rw [IntWalk.u64_in _ (by omega)]; omega)) (Mz rfl (fw (.int .u64 (((1 * (p1 % 4294967296)) / 4294967296 : Nat) : Int)) (Yl.int (e := Int.fdiv ((1 * (p1 % 4294967296) : Nat) : Int) 4294967296) yk (shr_nat _ 32 _ (by decide))) (fw (.int .u64 (((0 * (p1 % 4294967296)) + ((1 * (p1 % 4294967296)) / 4294967296) : Nat) : Int)) (Yl.int (e := IntKind.u64.wrap (((0 * (p1 % 4294967296) : Nat) : Int) + (((1 * (p1 % 4294967296)) / 4294967296 : Nat) : Int))) yk (by rw [IntWalk.u64_in _ (by omega)]; omega)) (Ar rfl (Mz rfl (fw (.int .u64 ((((0 * (p1 % 4294967296)) + ((1 * (p1 % 4294967296)) / 4294967296)) % 4294967296 : Nat) : Int)) (Yl.int (e := IntKind.u64.wrap (((BitVec.ofInt 64 (((0 * (p1 % 4294967296)) + ((1 * (p1 % 4294967296)) / 4294967296) : Nat) : Int) &&& BitVec.ofInt 64 4294967295).toNat : Nat) : Int)) yk (and_mask _ 32 (by decide) _ (by decide))) (Ar rfl (Mz rfl (fw (.int .u64 ((((0 * (p1 % 4294967296)) + ((1 * (p1 % 4294967296)) / 4294967296)) / 4294967296 : Nat) : Int)) (Yl.int (e := Int.fdiv (((0 * (p1 % 4294967296)) + ((1 * (p1 % 4294967296)) / 4294967296) : Nat) : Int) 4294967296) yk (shr_nat _ 32 _ (by decide))) (Ar rfl (Mz rfl (Mz rfl (Mz rfl (fw (.int .u64 ((1 * (p1 / 4294967296) : Nat) : Int)) (Yl.int (e := IntKind.u64.wrap (1 * ((p1 / 4294967296 : Nat) : Int))) yk (by rw [IntWalk.u64_in _ (by omega)]; omega)) (fw (.int .u64 (((((0 * (p1 % 4294967296)) + ((1 * (p1 % 4294967296)) / 4294967296)) % 4294967296) + (1 * (p1 / 4294967296)) : Nat) : Int)) (Yl.int (e := IntKind.u64.wrap (((((0 * (p1 % 4294967296)) + ((1 * (p1 % 4294967296)) / 4294967296)) % 4294967296 : Nat) : Int) + ((1 * (p1 / 4294967296) : Nat) : Int))) yk (by rw [IntWalk.u64_in _ (by omega)]; omega)) (Ar rfl (Mz rfl ?_))))))))))))))))))))
 refine Mz rfl (fw (.int .u64 ((0 * (p1 / 4294967296) : Nat) : Int)) (Yl.int (e := IntKind.u64.wrap (0 * ((p1 / 4294967296 : Nat) : Int))) yk (by rw [IntWalk.u64_in _ (by omega)]; omega)) (Mz rfl (fw (.int .u64 (((0 * (p1 / 4294967296)) + (((0 * (p1 % 4294967296)) + ((1 * (p1 % 4294967296)) / 4294967296)) / 4294967296) : Nat) : Int)) (Yl.int (e := IntKind.u64.wrap (((0 * (p1 / 4294967296) : Nat) : Int) + ((((0 * (p1 % 4294967296)) + ((1 * (p1 % 4294967296)) / 4294967296)) / 4294967296 : Nat) : Int))) yk (by rw [IntWalk.u64_in _ (by omega)]; omega)) (Mz rfl (fw (.int .u64 ((((((0 * (p1 % 4294967296)) + ((1 * (p1 % 4294967296)) / 4294967296)) % 4294967296) + (1 * (p1 / 4294967296))) / 4294967296 : Nat) : Int)) (Yl.int (e := Int.fdiv (((((0 * (p1 % 4294967296)) + ((1 * (p1 % 4294967296)) / 4294967296)) % 4294967296) + (1 * (p1 / 4294967296)) : Nat) : Int) 4294967296) yk (shr_nat _ 32 _ (by decide))) (fw (.int .u64 ((((0 * (p1 / 4294967296)) + (((0 * (p1 % 4294967296)) + ((1 * (p1 % 4294967296)) / 4294967296)) / 4294967296)) + (((((0 * (p1 % 4294967296)) + ((1 * (p1 % 4294967296)) / 4294967296)) % 4294967296) + (1 * (p1 / 4294967296))) / 4294967296) : Nat) : Int)) (Yl.int (e := IntKind.u64.wrap ((((0 * (p1 / 4294967296)) + (((0 * (p1 % 4294967296)) + ((1 * (p1 % 4294967296)) / 4294967296)) / 4294967296) : Nat) : Int) + ((((((0 * (p1 % 4294967296)) + ((1 * (p1 % 4294967296)) / 4294967296)) % 4294967296) + (1 * (p1 / 4294967296))) / 4294967296 : Nat) : Int))) yk (by rw [IntWalk.u64_in _ (by omega)]; omega)) (Ar rfl (Mz rfl (Mz rfl (fw (.int .u64 ((1 * p1 : Nat) : Int)) (Yl.int (e := IntKind.u64.wrap (1 * ((p1 : Nat) : Int))) yk (by rw [IntWalk.u64_in _ (by omega)]; omega)) (An rfl (rt (Fin.res (res2 rfl rfl rfl) ?_)))))))))))))
 have H21 : Own w D w [] := H.pk []
 have e : math_bits_Mul64 p1 = (((0 * (p1 / 4294967296)) + (((0 * (p1 % 4294967296)) + ((1 * (p1 % 4294967296)) / 4294967296)) / 4294967296)) + (((((0 * (p1 % 4294967296)) + ((1 * (p1 % 4294967296)) / 4294967296)) % 4294967296) + (1 * (p1 / 4294967296))) / 4294967296), 1 * p1) := rfl
 obtain ⟨rfl, rfl⟩ := pj2 (e.symm.trans hr)
 exact ⟨rfl, H21, (by omega)⟩
def math_bits_Mul (p1 : Nat) : Nat × Nat :=
 bnd (math_bits_Mul64 p1) fun yr26 => (yr26.1, yr26.2)
set_option maxRecDepth 100000 in
theorem math_bits_Mul_ok (w : World) (D : Nat → Prop) (p0 : Int) (p1 : Nat) (r0 : Nat) (r1 : Nat) (H : Own w D w []) (hp0 : p0 = 1) (hh0 : p1 ≤ 9223372036854775807) (hr : math_bits_Mul p1 = (r0, r1)) :
    Calls Try.prog 64 #[.int .u64 p0, .int .u64 ((p1 : Nat) : Int)] w (Ret fun v w' => v = .tuple #[.int .u64 ((r0 : Nat) : Int), .int .u64 ((r1 : Nat) : Int)] ∧ Own w D w' [] ∧ (r0 = 0 ∧ r1 = p1)) := by
 subst hp0
 refine Calls.body (args := [.int .u64 1, .int .u64 ((p1 : Nat) : Int)]) Try.func64 rfl rfl rfl ?_
 show Wp _ _ _ [(0, .int .u64 1), (1, .int .u64 ((p1 : Nat) : Int))] _ _
 refine sr (Az rfl (An rfl (Wp.seq (jf (sk (sr (Mz rfl (Mz rfl ?_))))))))
 obtain ⟨⟨r26, r27⟩, hr28⟩ : ∃ q : Nat × Nat, math_bits_Mul64 p1 = q := ⟨_, rfl⟩
 obtain ⟨D21, HP22, ro23, bk24, rr25⟩ := Own.enter0 H
 refine cl Try.call87 (math_bits_Mul64_ok _ _ 1 p1 r26 r27 HP22 rfl (by omega) hr28) ?_
 rintro _ w29 ⟨rfl, HQ30, hk32⟩
 have H31 := bk24 _ _ HQ30
 replace hk32 : r26 = 0 ∧ r27 = p1 := hk32
 refine Mz rfl (Kz (.int .u64 ((r26 : Nat) : Int)) (Kz (.int .u64 ((r27 : Nat) : Int)) (Az rfl (Ar rfl (Mz rfl (Mz rfl (Az rfl (An rfl (rt (Fin.res (res2 rfl rfl rfl) ?_))))))))))
 have H33 := H31.pk []
 have e : math_bits_Mul p1 = (r26, r27) := bnd_of hr28
 obtain ⟨rfl, rfl⟩ := pj2 (e.symm.trans hr)
 exact ⟨rfl, H33, (by omega)⟩
def slices_Repeat_int_int_L0 (r28 : Nat) : Nat → Nat → List Int → (List Int)
  | 0, k43, l44 => default
  | q45 + 1, k43, l44 => if ((k43 : Nat) : Int) < ((r28 : Nat) : Int) then slices_Repeat_int_int_L0 r28 q45 (k43 + (min k43 (r28 - k43))) (List.take k43 l44 ++ (List.take (min k43 (r28 - k43)) (List.take k43 l44) ++ List.drop (k43 + (min k43 (r28 - k43))) l44)) else l44
def slices_Repeat_int_int (l0 : List Int) (p1 : Int) : (List Int) :=
 bnd (math_bits_Mul (Int.toNat p1)) fun yr27 => bnd (slices_Repeat_int_int_L0 yr27.2 ((Int.toNat p1 - (min l0.length yr27.2)) + 1) (min l0.length yr27.2) (List.take 0 (List.replicate yr27.2 (0 : Int)) ++ (List.take (min l0.length yr27.2) l0 ++ List.drop (0 + (min l0.length yr27.2)) (List.replicate yr27.2 (0 : Int))))) fun sLrbL => sLrbL
set_option maxRecDepth 100000 in
theorem slices_Repeat_int_int_ok (w : World) (D : Nat → Prop) (A0 : Option Addr) (n0 c0 : Nat) (l0 : List Int) (p1 : Int) (r0 : List Int) (H : Own w D w []) (hx0 : Ro w D fun w' => Rds w' 1 A0 n0 (List.flatMap (eI .i64) l0)) (hn0 : n0 = l0.length) (hl0 : l0.length * 8 ≤ 211106232532992) (hh0 : l0.length = 1 ∧ 0 ≤ p1 ∧ p1 * 8 ≤ 140737488351232) (hr : slices_Repeat_int_int l0 p1 = r0) :
    Calls Try.prog 50 #[.slice A0 n0 c0, .int .i64 p1] w (Ret fun v w' => ∃ (B0 : Option Addr) (b0 : Nat), v = .slice B0 r0.length b0 ∧ Own w D w' [row B0 r0.length b0 (List.flatMap (eI .i64) r0) 3 1] ∧ (((r0.length : Nat) : Int) = p1)) := by
 subst hn0
 refine Calls.body (args := [.slice A0 l0.length c0, .int .i64 p1]) Try.func50 rfl rfl rfl ?_
 show Wp _ _ _ [(0, .slice A0 l0.length c0), (1, .int .i64 p1)] _ _
 refine sr (An rfl (Wp.seq (sr (Mz rfl (Kz (.bool (decide (p1 < 0))) (nt ?_))))))
 have hb21 : (decide (p1 < 0)) = false := (dF (by omega))
 refine jF hb21 (sk (sr (Mz rfl (Kz (.int .i64 ((l0.length : Nat) : Int)) (fw (.int .u64 ((l0.length : Nat) : Int)) (Yl.int (e := IntKind.u64.wrap ((l0.length : Nat) : Int)) yk (IntWalk.u64_in _ (by omega))) (fw (.int .i64 ((Int.toNat p1 : Nat) : Int)) (Yl.int (e := p1) (Yl.move rfl) (by omega)) (fw (.int .u64 ((Int.toNat p1 : Nat) : Int)) (Yl.int (e := IntKind.u64.wrap ((Int.toNat p1 : Nat) : Int)) yk (IntWalk.u64_in _ (by omega))) ?_)))))))
 obtain ⟨⟨r27, r28⟩, hr29⟩ : ∃ q : Nat × Nat, math_bits_Mul (Int.toNat p1) = q := ⟨_, rfl⟩
 obtain ⟨D22, HP23, ro24, bk25, rr26⟩ := Own.enter0 H
 refine cl Try.call64 (math_bits_Mul_ok _ _ ((l0.length : Nat) : Int) (Int.toNat p1) r27 r28 HP23 (by omega) (by omega) hr29) ?_
 rintro _ w30 ⟨rfl, HQ31, hk33⟩
 have H32 := bk25 _ _ HQ31
 replace hk33 : r27 = 0 ∧ r28 = (Int.toNat p1) := hk33
 refine Mz rfl (Kz (.int .u64 ((r27 : Nat) : Int)) (Kz (.int .u64 ((r28 : Nat) : Int)) (Az rfl (An rfl (Wp.seq (sr (Mz rfl (Kz (.bool (decide (((r27 : Nat) : Int) > 0))) (Mz rfl ?_)))))))))
 have hb34 : (decide (((r27 : Nat) : Int) > 0)) = false := (dF (by omega))
 refine WL.valG (v := .int .u64 ((r28 : Nat) : Int)) rfl rfl hb34 rfl (Yl.move rfl) (Gz (.bool (decide (((r28 : Nat) : Int) > 9223372036854775807))) hb34 (fw (.bool (decide (((r28 : Nat) : Int) > 9223372036854775807))) (Yl.pickF rfl hb34 rfl) (nt ?_)))
 have hb35 : (decide (((r28 : Nat) : Int) > 9223372036854775807)) = false := (dF (by omega))
 refine jF hb35 (sk (sr (Mz rfl (fw (.int .i64 ((r28 : Nat) : Int)) (Yl.int (e := IntKind.i64.wrap ((r28 : Nat) : Int)) yk (IntWalk.i64_in _ (by omega))) ?_))))
 refine WL.do rfl (Do.makeE (x0 := (0 : Int)) (z := .int .i64 0) (k := r28) (size := 1) (bytes := 8) eI_len (by decide) rfl Try.underlying45 (by kernel_rfl) H32 rfl rfl (by omega) (by unfold maxLen; omega) ?_)
 intro A36 w37 H38
 have hl39 : List.length (List.replicate r28 (0 : Int)) = r28 := List.length_replicate
 refine Ar rfl (Mz rfl (Mz rfl ?_))
 refine WL.do rfl (Do.copy (lo := 0) (k := min l0.length r28) (El45) H38 rfl (fun hp => by rw [Nat.zero_mul, Nat.add_zero]; exact (H38.rds (i := 0) rfl).isSome (by omega)) (by omega) rfl (H38.ro hx0) (flat_one eI_one l0) (by omega) (flat_put eI_len _ _ _ _ (by first | omega | (simp; done) | (simp; omega))) ?_)
 intro w40 H41
 have hl42 : List.length (List.take 0 (List.replicate r28 (0 : Int)) ++ (List.take (min l0.length r28) l0 ++ List.drop (0 + (min l0.length r28)) (List.replicate r28 (0 : Int)))) = r28 := by simp only [List.length_append, List.length_take, List.length_drop, List.length_replicate]; omega
 refine An rfl (Wp.seq (bo ?_))
 have H47 := H41.pk [0]
 obtain ⟨I51, hI52⟩ : ∃ q : (Nat × (List Int) × Nat) → World → Prop, q = fun (i : Nat × (List Int) × Nat) w' => Own w D w' [row A36 r28 r28 (List.flatMap (eI .i64) i.2.1) 3 1] ∧ (i.2.1.length = r28 ∧ ((i.1 : Nat) : Int) ≤ p1 ∧ (1 ≤ i.1 ∨ p1 = 0) ∧ Int.toNat p1 - i.1 < i.2.2 ∧ slices_Repeat_int_int_L0 r28 ((Int.toNat p1 - (min l0.length r28)) + 1) (min l0.length r28) (List.take 0 (List.replicate r28 (0 : Int)) ++ (List.take (min l0.length r28) l0 ++ List.drop (0 + (min l0.length r28)) (List.replicate r28 (0 : Int)))) = slices_Repeat_int_int_L0 r28 i.2.2 i.1 i.2.1) := ⟨_, rfl⟩
 have dm53 : ∀ {k43 : Nat} {l44 : List Int} {f46 : Nat} {w' : World}, I51 (k43, l44, f46) w' ↔ Own w D w' [row A36 r28 r28 (List.flatMap (eI .i64) l44) 3 1] ∧ l44.length = r28 ∧ ((k43 : Nat) : Int) ≤ p1 ∧ (1 ≤ k43 ∨ p1 = 0) ∧ Int.toNat p1 - k43 < f46 ∧ slices_Repeat_int_int_L0 r28 ((Int.toNat p1 - (min l0.length r28)) + 1) (min l0.length r28) (List.take 0 (List.replicate r28 (0 : Int)) ++ (List.take (min l0.length r28) l0 ++ List.drop (0 + (min l0.length r28)) (List.replicate r28 (0 : Int)))) = slices_Repeat_int_int_L0 r28 f46 k43 l44 := by intros; subst hI52; exact Iff.rfl
 refine Wp.loop (fun i : Nat × (List Int) × Nat => [(8, .int .i64 ((i.1 : Nat) : Int)), (7, .slice A36 r28 r28), (4, .slice none 0 0)]) I51 (fun i => i.2.2) (min l0.length r28, (List.take 0 (List.replicate r28 (0 : Int)) ++ (List.take (min l0.length r28) l0 ++ List.drop (0 + (min l0.length r28)) (List.replicate r28 (0 : Int)))), (Int.toNat p1 - (min l0.length r28)) + 1) ⟨rfl, rfl, rfl, trivial⟩ (dm53.2 ⟨H47, by first | omega | (simp only [List.length_set] <;> omega) | (simp only [List.length_replicate]), by omega, by omega, by omega, rfl⟩) ?_
 rintro ⟨k43, l44, f46⟩ w48 hf50
 show Wp _ _ _ [(8, .int .i64 ((k43 : Nat) : Int)), (7, .slice A36 r28 r28), (4, .slice none 0 0)] _ _
 obtain ⟨H49, hi55, hi56, hi57, hi58, hq54⟩ := dm53.1 hf50
 obtain ⟨f59, hf60⟩ : ∃ q, f46 = q + 1 := ⟨f46 - 1, by omega⟩
 subst hf60
 refine Wp.seq (sr (Mz rfl (Mz rfl (Kz (.int .i64 ((r28 : Nat) : Int)) (Kz (.bool (decide (((k43 : Nat) : Int) < ((r28 : Nat) : Int)))) (nt ?_))))))
 by_cases h61 : ((k43 : Nat) : Int) < ((r28 : Nat) : Int)
 refine jT (dT h61) (sk (bo ?_))
 have H63 := H49.drew
 refine Wp.drawnX [7] (fun W => ∃ L', Own w D W ([row A36 r28 r28 (List.flatMap (eI .i64) l44) 3 1] ++ L')) (by kernel_rfl) (by kernel_rfl) (NoP.block (NoP.then (NoP.block (NoP.then NoP.base)))) ⟨_, H63⟩ ?_
 revert H63
 generalize World.drew w48 = w62
 intro H63
 refine GX.takeA (v := .int .i64 ((k43 : Nat) : Int)) 0 rfl (by kernel_rfl) (fun _ => Yl.move rfl) (GX.take (v := .slice A36 r28 r28) (rs := [[3]]) 1 rfl (by kernel_rfl) (fun _ _ => Yl.move rfl) (GX.take (v := .int .i64 ((k43 : Nat) : Int)) (rs := [[3]]) 2 rfl (by kernel_rfl) (fun _ _ => Yl.move rfl) (GX.take (v := .slice (cutA A36 k43 1 r28) (r28 - k43) (r28 - k43)) (rs := [[]]) 3 rfl (by kernel_rfl) (fun _ _ => Yl.cutFrom (El45) rfl rfl (by omega)) (GX.take (v := .slice A36 r28 r28) (rs := [[6]]) 4 rfl (by kernel_rfl) (fun _ _ => Yl.move rfl) (GX.take (v := .int .i64 ((k43 : Nat) : Int)) (rs := [[6]]) 5 rfl (by kernel_rfl) (fun _ _ => Yl.move rfl) (GX.take (v := .slice A36 k43 r28) (rs := [[]]) 6 rfl (by kernel_rfl) (fun _ _ => Yl.cutTo (El45) rfl rfl (by omega)) ?_))))))
 refine GX.do 7 rfl (by kernel_rfl) (Do.copy (lo := k43) (k := min k43 (r28 - k43)) (El45) H63 rfl (fun _ => cutA_pos ((H63.rds (i := 0) rfl).addr (i := k43) (by omega)) (by omega)) (by omega) rfl (Rds.toE (hi := k43) eI_len (H63.rds (i := 0) rfl) (by omega)) (flat_one eI_one (List.take k43 l44)) (by omega) (flat_put eI_len _ _ _ _ (by first | omega | (simp; done) | (simp; omega))) ?_)
 intro w64 H65
 have hl66 : List.length (List.take k43 l44 ++ (List.take (min k43 (r28 - k43)) (List.take k43 l44) ++ List.drop (k43 + (min k43 (r28 - k43))) l44)) = r28 := by simp only [List.length_append, List.length_take, List.length_drop, List.length_replicate]; omega
 refine ⟨.inl (by kernel_rfl), ?_⟩
 refine GX.takeA (v := .int .i64 ((k43 + (min k43 (r28 - k43)) : Nat) : Int)) 8 rfl (by kernel_rfl) (fun _ => Yl.int (e := IntKind.i64.wrap (((k43 : Nat) : Int) + ((min k43 (r28 - k43) : Nat) : Int))) yk (by rw [IntWalk.i64_in _ (by omega)]; omega)) (GX.takeA (v := .int .i64 ((k43 + (min k43 (r28 - k43)) : Nat) : Int)) 9 rfl (by kernel_rfl) (fun _ => Yl.assign rfl) (GX.done (by kernel_rfl) (bN ?_)))
 have H67 := H65.pk [0]
 exact Fin.round (k43 + (min k43 (r28 - k43)), (List.take k43 l44 ++ (List.take (min k43 (r28 - k43)) (List.take k43 l44) ++ List.drop (k43 + (min k43 (r28 - k43))) l44)), f59) ⟨rfl, rfl, rfl, trivial⟩ (dm53.2 ⟨H67, by first | omega | (simp only [List.length_set] <;> omega) | (simp only [List.length_replicate]), by omega, by omega, by omega, Eq.trans (hq54) (if_pos h61)⟩) (by show f59 < f59 + 1; omega)
 refine jF (dF h61) (Wp.exit (Fin.thenX ?_))
 have hL68 : slices_Repeat_int_int_L0 r28 ((Int.toNat p1 - (min l0.length r28)) + 1) (min l0.length r28) (List.take 0 (List.replicate r28 (0 : Int)) ++ (List.take (min l0.length r28) l0 ++ List.drop (0 + (min l0.length r28)) (List.replicate r28 (0 : Int)))) = l44 := et (hq54) (iN h61)
 refine Fin.thenX (Fin.blockX (Fin.then (sr (Mz rfl (An rfl (rt (rs ?_)))))))
 have hn69 : r28 = l44.length := by first | omega | (simp only [List.length_set]; done) | (simp only [List.length_set, List.length_append, List.length_cons, List.length_nil, List.length_take, List.length_drop, List.length_replicate]; omega)
 have H70 : Own w D w48 [row A36 l44.length r28 (List.flatMap (eI .i64) l44) 3 1] := by rw [← hn69]; exact H49
 have H71 := H70.pk [0]
 obtain rfl : _ = l44 := hr.symm.trans (et (bnd_of hr29) (bnd_of hL68))
 exact ⟨A36, r28, (by first | rfl | (rw [← hn69]; done) | (rw [← hn69]; rfl)), H71, (by omega)⟩
def owner_Cut_L1 (l0 : List OwnerD) (l49 : List PartT) (k51 : Nat) : List OpD → Nat → List OpD → List Int → (List OpD) × (List Int)
  | [], k73, l76, l79 => (l76, l79)
  | x93 :: q80, k73, l76, l79 => bnd (owner_cutOp l0 ((k51 : Nat) : Int) x93) fun yr101 => bnd (slices_Repeat_int_int ([((k73 : Nat) : Int)]) ((yr101.length : Nat) : Int)) fun yr130 => owner_Cut_L1 l0 l49 k51 q80 (k73 + 1) (l76 ++ yr101) (l79 ++ yr130)
def owner_Cut_L0 (l0 : List OwnerD) (l1 : List OpD) : Nat → List PartT → Nat → (List PartT)
  | 0, l49, k51 => l49
  | q52 + 1, l49, k51 => bnd (owner_Cut_L1 l0 l49 k51 l1 0 ([]) ([])) fun sLrbtbtLsL => if ((sLrbtbtLsL.1.length : Nat) : Int) > 0 then owner_Cut_L0 l0 l1 q52 (l49 ++ [(PartT.mk ((k51 : Nat) : Int) (Ll.mk sLrbtbtLsL.1) (Ll.mk sLrbtbtLsL.2))]) (k51 + 1) else owner_Cut_L0 l0 l1 q52 l49 (k51 + 1)
def owner_Cut (l0 : List OwnerD) (l1 : List OpD) : (List PartT) × Int :=
 bnd (owner_Check l0) fun yr26 => if yr26 = 0 then bnd (op_Check l1) fun yr38 => if yr38 = 0 then bnd (owner_Cut_L0 l0 l1 5 ([]) 0) fun sLrbtbtL => (sLrbtbtL, 0) else ([], yr38) else ([], yr26)
set_option maxRecDepth 100000 in
theorem owner_Cut_ok (w : World) (D : Nat → Prop) (A0 : Option Addr) (n0 c0 : Nat) (l0 : List OwnerD) (A1 : Option Addr) (n1 c1 : Nat) (l1 : List OpD) (r0 : List PartT) (r1 : Int) (H : Own w D w []) (hx0 : Ro w D fun w' => Rds w' 2 A0 n0 (List.flatMap OwnerD.cells l0)) (hn0 : n0 = l0.length) (hl0 : l0.length * 24 ≤ 211106232532992) (hx1 : Ro w D fun w' => Rds w' 6 A1 n1 (List.flatMap OpD.cells l1)) (hn1 : n1 = l1.length) (hl1 : l1.length * 80 ≤ 211106232532992) (hr : owner_Cut l0 l1 = (r0, r1)) :
    Calls Try.prog 26 #[.slice A0 n0 c0, .slice A1 n1 c1] w (Ret fun v w' => ∃ (B0 : Option Addr) (b0 : Nat) (e0 : List PartD), v = .tuple #[.slice B0 r0.length b0, .int .i64 r1] ∧ Own w D w' [row B0 r0.length b0 (List.flatMap PartD.cells e0) 47 3, sepL (List.flatMap PartD.own e0)] ∧ (List.map PartD.abs e0 = r0)) := by
 subst hn0 hn1
 refine Calls.body (args := [.slice A0 l0.length c0, .slice A1 l1.length c1]) Try.func26 rfl rfl rfl ?_
 show Wp _ _ _ [(0, .slice A0 l0.length c0), (1, .slice A1 l1.length c1)] _ _
 refine sr (Az rfl (An rfl (Wp.seq (sr (Mz rfl ?_)))))
 obtain ⟨r26, hr27⟩ : ∃ q, owner_Check l0 = q := ⟨_, rfl⟩
 obtain ⟨D21, HP22, ro23, bk24, rr25⟩ := Own.enter0 H
 refine cl Try.call14 (owner_Check_ok _ _ A0 l0.length c0 l0 r26 HP22 (ro23 _ hx0) rfl (by omega) hr27) ?_
 rintro _ w28 ⟨rfl, HQ29, hk31⟩
 have H30 := bk24 _ _ HQ29
 replace hk31 : ¬ (r26 = 0) ∨ (1 ≤ l0.length ∧ l0.length ≤ 6) := hk31
 refine Ar rfl (Mz rfl (fw (.bool (decide (¬ (r26 = 0)))) (Yl.bool (e := !(decide (r26 = 0))) yk decide_not.symm) (nt ?_)))
 by_cases h32 : r26 = 0
 refine jF (dF (not_not_intro h32)) (sk (Wp.seq (sr (Mz rfl ?_))))
 obtain ⟨r38, hr39⟩ : ∃ q, op_Check l1 = q := ⟨_, rfl⟩
 obtain ⟨D33, HP34, ro35, bk36, rr37⟩ := Own.enter0 H30
 refine cl Try.call48 (op_Check_ok _ _ A1 l1.length c1 l1 r38 HP34 (ro35 _ hx1) rfl (by omega) hr39) ?_
 rintro _ w40 ⟨rfl, HQ41, hk43⟩
 have H42 := bk36 _ _ HQ41
 replace hk43 : ¬ (r38 = 0) ∨ (1 ≤ l1.length ∧ l1.length ≤ 4) := hk43
 refine Ar rfl (Mz rfl (fw (.bool (decide (¬ (r38 = 0)))) (Yl.bool (e := !(decide (r38 = 0))) yk decide_not.symm) (nt ?_)))
 by_cases h44 : r38 = 0
 refine jF (dF (not_not_intro h44)) (sk (sr (An rfl (Wp.seq (sr (Mn rfl (bo ?_)))))))
 have H45 : Own w D w40 [sepL (List.flatMap PartD.own ([]))] := H42.sepNil
 have H46 : Own w D w40 [row none 0 0 (List.flatMap PartD.cells ([])) 47 3, sepL (List.flatMap PartD.own ([]))] := H45.free (row_nil 47 3)
 have H53 := H46.pk [0, 1]
 obtain ⟨I57, hI58⟩ : ∃ q : ((Option Addr) × Nat × (List PartD) × (List PartT) × Nat) → World → Prop, q = fun (i : (Option Addr) × Nat × (List PartD) × (List PartT) × Nat) w' => Own w D w' [row i.1 i.2.2.2.1.length i.2.1 (List.flatMap PartD.cells i.2.2.1) 47 3, sepL (List.flatMap PartD.own i.2.2.1)] ∧ (List.map PartD.abs i.2.2.1 = i.2.2.2.1 ∧ i.2.2.2.2 ≤ 5 ∧ i.2.2.2.1.length ≤ i.2.2.2.2 ∧ owner_Cut_L0 l0 l1 5 ([]) 0 = owner_Cut_L0 l0 l1 (5 - i.2.2.2.2) i.2.2.2.1 i.2.2.2.2) := ⟨_, rfl⟩
 have dm59 : ∀ {A47 : Option Addr} {c48 : Nat} {d50 : List PartD} {l49 : List PartT} {k51 : Nat} {w' : World}, I57 (A47, c48, d50, l49, k51) w' ↔ Own w D w' [row A47 l49.length c48 (List.flatMap PartD.cells d50) 47 3, sepL (List.flatMap PartD.own d50)] ∧ List.map PartD.abs d50 = l49 ∧ k51 ≤ 5 ∧ l49.length ≤ k51 ∧ owner_Cut_L0 l0 l1 5 ([]) 0 = owner_Cut_L0 l0 l1 (5 - k51) l49 k51 := by intros; subst hI58; exact Iff.rfl
 refine Wp.loop (fun i : (Option Addr) × Nat × (List PartD) × (List PartT) × Nat => [(8, .slice i.1 i.2.2.2.1.length i.2.1), (23, .int .i64 ((i.2.2.2.2 : Nat) : Int)), (5, .int .i64 0), (4, .slice none 0 0), (0, .slice A0 l0.length c0), (1, .slice A1 l1.length c1)]) I57 (fun i => 5 - i.2.2.2.2) (none, 0, [], [], 0) ⟨rfl, rfl, rfl, rfl, rfl, rfl, trivial⟩ (dm59.2 ⟨H53, (show List.map PartD.abs ([]) = ([]) ∧ 0 ≤ 5 ∧ 0 ≤ 0 ∧ owner_Cut_L0 l0 l1 5 ([]) 0 = owner_Cut_L0 l0 l1 (5 - 0) ([]) 0 from ⟨by exact rfl, by omega, by omega, rfl⟩)⟩) ?_
 rintro ⟨A47, c48, d50, l49, k51⟩ w54 hf56
 show Wp _ _ _ [(8, .slice A47 l49.length c48), (23, .int .i64 ((k51 : Nat) : Int)), (5, .int .i64 0), (4, .slice none 0 0), (0, .slice A0 l0.length c0), (1, .slice A1 l1.length c1)] _ _
 obtain ⟨H55, hi61, hi62, hi63, hq60⟩ := dm59.1 hf56
 have hl64 := abs_len hi61
 refine sr (Kz (.bool (decide (((k51 : Nat) : Int) < 5))) (nt (Wp.seq ?_)))
 by_cases h65 : ((k51 : Nat) : Int) < 5
 refine jT (dT h65) (sk (Wp.seq (bo (sr (Mz rfl (Ar rfl (Mz rfl (Kz (.agg #[.int .i64 ((k51 : Nat) : Int), .slice none 0 0, .slice none 0 0]) ?_))))))))
 refine npw [.int .i64 0, .slice none 0 0, .slice none 0 0] 47 H55 ?_
 intro g66 w67 H68
 refine sto [.int .i64 ((k51 : Nat) : Int), .slice none 0 0, .slice none 0 0] 0 H68 Try.sizeOf47 ?_
 intro w69 H70
 refine nt (Wp.seq (sr (Mz rfl (Kz (.int .i64 ((l1.length : Nat) : Int)) (Mn rfl (bo ?_))))))
 have H71 : Own w D w69 [row none 0 0 (List.flatMap OpD.cells ([])) 74 6, blk g66 [.int .i64 ((k51 : Nat) : Int), .slice none 0 0, .slice none 0 0] 47, row A47 l49.length c48 (List.flatMap PartD.cells d50) 47 3, sepL (List.flatMap PartD.own d50)] := H70.free (row_nil 74 6)
 have H72 : Own w D w69 [row none 0 0 (List.flatMap (eI .i64) ([])) 3 1, row none 0 0 (List.flatMap OpD.cells ([])) 74 6, blk g66 [.int .i64 ((k51 : Nat) : Int), .slice none 0 0, .slice none 0 0] 47, row A47 l49.length c48 (List.flatMap PartD.cells d50) 47 3, sepL (List.flatMap PartD.own d50)] := H71.free (row_nil 3 1)
 have H81 := H72.pk [2, 3, 4, 1, 0]
 obtain ⟨I85, hI86⟩ : ∃ q : (Nat × (Option Addr) × Nat × (List OpD) × (Option Addr) × Nat × (List Int)) → World → Prop, q = fun (i : Nat × (Option Addr) × Nat × (List OpD) × (Option Addr) × Nat × (List Int)) w' => Own w D w' [blk g66 [.int .i64 ((k51 : Nat) : Int), .slice i.2.1 i.2.2.2.1.length i.2.2.1, .slice i.2.2.2.2.1 i.2.2.2.2.2.2.length i.2.2.2.2.2.1] 47, row A47 l49.length c48 (List.flatMap PartD.cells d50) 47 3, sepL (List.flatMap PartD.own d50), row i.2.1 i.2.2.2.1.length i.2.2.1 (List.flatMap OpD.cells i.2.2.2.1) 74 6, row i.2.2.2.2.1 i.2.2.2.2.2.2.length i.2.2.2.2.2.1 (List.flatMap (eI .i64) i.2.2.2.2.2.2) 3 1] ∧ (i.1 ≤ l1.length ∧ i.2.2.2.1.length ≤ 6 * i.1 ∧ i.2.2.2.2.2.2.length ≤ 6 * i.1 ∧ owner_Cut_L1 l0 l49 k51 l1 0 ([]) ([]) = owner_Cut_L1 l0 l49 k51 (List.drop i.1 l1) i.1 i.2.2.2.1 i.2.2.2.2.2.2) := ⟨_, rfl⟩
 have dm87 : ∀ {k73 : Nat} {A74 : Option Addr} {c75 : Nat} {l76 : List OpD} {A77 : Option Addr} {c78 : Nat} {l79 : List Int} {w' : World}, I85 (k73, A74, c75, l76, A77, c78, l79) w' ↔ Own w D w' [blk g66 [.int .i64 ((k51 : Nat) : Int), .slice A74 l76.length c75, .slice A77 l79.length c78] 47, row A47 l49.length c48 (List.flatMap PartD.cells d50) 47 3, sepL (List.flatMap PartD.own d50), row A74 l76.length c75 (List.flatMap OpD.cells l76) 74 6, row A77 l79.length c78 (List.flatMap (eI .i64) l79) 3 1] ∧ k73 ≤ l1.length ∧ l76.length ≤ 6 * k73 ∧ l79.length ≤ 6 * k73 ∧ owner_Cut_L1 l0 l49 k51 l1 0 ([]) ([]) = owner_Cut_L1 l0 l49 k51 (List.drop k73 l1) k73 l76 l79 := by intros; subst hI86; exact Iff.rfl
 refine Wp.loop (fun i : Nat × (Option Addr) × Nat × (List OpD) × (Option Addr) × Nat × (List Int) => [(30, .int .i64 ((i.1 : Nat) : Int)), (29, .int .i64 ((l1.length : Nat) : Int)), (10, .pointer (some ⟨g66, 0, none⟩)), (9, .int .i64 ((k51 : Nat) : Int)), (8, .slice A47 l49.length c48), (23, .int .i64 ((k51 : Nat) : Int)), (5, .int .i64 0), (4, .slice none 0 0), (0, .slice A0 l0.length c0), (1, .slice A1 l1.length c1)]) I85 (fun i => l1.length - i.1) (0, none, 0, [], none, 0, []) ⟨rfl, rfl, rfl, rfl, rfl, rfl, rfl, rfl, rfl, rfl, trivial⟩ (dm87.2 ⟨H81, (show 0 ≤ l1.length ∧ 0 ≤ 6 * 0 ∧ 0 ≤ 6 * 0 ∧ owner_Cut_L1 l0 l49 k51 l1 0 ([]) ([]) = owner_Cut_L1 l0 l49 k51 (List.drop 0 l1) 0 ([]) ([]) from ⟨by omega, by omega, by omega, rfl⟩)⟩) ?_
 rintro ⟨k73, A74, c75, l76, A77, c78, l79⟩ w82 hf84
 show Wp _ _ _ [(30, .int .i64 ((k73 : Nat) : Int)), (29, .int .i64 ((l1.length : Nat) : Int)), (10, .pointer (some ⟨g66, 0, none⟩)), (9, .int .i64 ((k51 : Nat) : Int)), (8, .slice A47 l49.length c48), (23, .int .i64 ((k51 : Nat) : Int)), (5, .int .i64 0), (4, .slice none 0 0), (0, .slice A0 l0.length c0), (1, .slice A1 l1.length c1)] _ _
 obtain ⟨H83, hi89, hi90, hi91, hq88⟩ := dm87.1 hf84
 refine sr (Kz (.bool (decide (((k73 : Nat) : Int) < ((l1.length : Nat) : Int)))) (nt (Wp.seq ?_)))
 by_cases h92 : ((k73 : Nat) : Int) < ((l1.length : Nat) : Int)
 obtain ⟨x93, hx94⟩ := rds_at (ls := l1) (i := k73) OpD.len (by decide) (H83.ro hx1) (by first | omega | (simp; done) | (simp; omega))
 have hd95 := drop_at hx94
 refine jT (dT h92) (sk (Wp.seq (bo (sr (Mz rfl (Ar rfl (Mz rfl (Mz rfl (Mz rfl (Mz rfl (fw (.pointer (some ⟨ab A1, ao A1 + k73 * 6, none⟩)) (Yl.indexAddr (El41) rfl rfl ((H83.ro hx1).addr (i := k73) (by omega)) (by omega)) (fw (.agg (OpD.cells x93).toArray) (Yl.load rfl (Lds.agg (cs := (OpD.cells x93)) Try.isAgg74 Try.sizeOf74 ((H83.ro hx1).elem OpD.len hx94 (by decide)))) ?_))))))))))))
 obtain ⟨r101, hr102⟩ : ∃ q, owner_cutOp l0 ((k51 : Nat) : Int) x93 = q := ⟨_, rfl⟩
 obtain ⟨D96, HP97, ro98, bk99, rr100⟩ := Own.enter0 H83
 refine cl Try.call49 (owner_cutOp_ok _ _ A0 l0.length c0 l0 ((k51 : Nat) : Int) x93 r101 HP97 (ro98 _ hx0) rfl (by omega) (by omega) hr102) ?_
 rintro _ w103 ⟨A106, c107, rfl, HQ104, hk108⟩
 have H105 := bk99 _ _ HQ104
 have hb109 := H105.rowC (i := 0) rfl
 replace hk108 : r101.length ≤ 6 := hk108
 refine Ar rfl (Kz (.pointer (some ⟨g66, 1, none⟩)) (Lz (.slice A74 l76.length c75) H105 1 Try.isAgg41 (Mz rfl ?_)))
 have H110 := H105.pk [4, 0, 1, 2, 3, 5]
 refine WL.do rfl (Do.appendW (k := l76.length) (m := r101.length) (El41) H110 rfl rfl (src_of Try.underlying41 (H110.rds (i := 1) rfl) (flat_one OpD.one r101)) rfl (by omega) (s := List.length (l76 ++ r101)) (by first | omega | (simp only [List.length_append, List.length_cons, List.length_nil] <;> omega)) (List.flatMap_append).symm ?_)
 intro A111 c112 w113 H114
 have hl115 : List.length (l76 ++ r101) = l76.length + r101.length := by simp only [List.length_append, List.length_cons, List.length_nil]
 refine Kz (.pointer (some ⟨g66, 1, none⟩)) ?_
 have H116 := H114.pk [2, 0, 1, 3, 4, 5]
 refine sto [.slice A111 (List.length (l76 ++ r101)) c112] 1 H116 Try.sizeOf41 ?_
 intro w117 H118
 refine nt ?_
 have H120 := H118.drew
 refine Wp.drawnX [7, 9] (fun W => ∃ L', Own w D W ([blk g66 [.int .i64 ((k51 : Nat) : Int), .slice A111 (List.length (l76 ++ r101)) c112, .slice A77 l79.length c78] 47, row A111 (List.length (l76 ++ r101)) c112 (List.flatMap OpD.cells (l76 ++ r101)) 74 6, row A106 r101.length c107 (List.flatMap OpD.cells r101) 74 6, row A47 l49.length c48 (List.flatMap PartD.cells d50) 47 3, sepL (List.flatMap PartD.own d50), row A77 l79.length c78 (List.flatMap (eI .i64) l79) 3 1] ++ L')) (by kernel_rfl) (by kernel_rfl) (NoP.block (NoP.then (NoP.then (NoP.block (NoP.then (NoP.block (NoP.then (NoP.then (NoP.block (NoP.then NoP.base)))))))))) ⟨_, H120⟩ ?_
 revert H120
 generalize World.drew w117 = w119
 intro H120
 refine GX.take (v := .pointer (some ⟨g66, 2, none⟩)) (rs := [[1], []]) 0 rfl (by kernel_rfl) (fun _ _ => yk) (GX.take (v := .slice A77 l79.length c78) (rs := [[], []]) 1 rfl (by kernel_rfl) (fun _ ⟨_, H9⟩ => Yl.load rfl (Lds.one Try.isAgg45 (Cls.of (H9.cls (i := 0) rfl) rfl))) (GX.take (v := .int .i64 ((k73 : Nat) : Int)) (rs := [[6, 3], []]) 2 rfl (by kernel_rfl) (fun _ _ => Yl.move rfl) (GX.take (v := .slice A106 r101.length c107) (rs := [[6, 5], []]) 4 rfl (by kernel_rfl) (fun _ _ => Yl.move rfl) (GX.take (v := .int .i64 ((r101.length : Nat) : Int)) (rs := [[6], []]) 5 rfl (by kernel_rfl) (fun _ _ => yk) ?_))))
 refine GX.do 3 rfl (by kernel_rfl) (Do.newRow (cs := [.int .i64 ((k73 : Nat) : Int)]) (t := 3) (sz := 1) (m := 1) H120 rfl rfl (fun _ => by kernel_rfl) rfl (by decide) ?_)
 intro A121 w122 H123
 replace H123 := Own.reh (y := row A121 1 1 (List.flatMap (eI .i64) ([((k73 : Nat) : Int)])) 3 1) rfl H123
 have H124 := H123.pk [1, 2, 3, 4, 5, 6, 0]
 refine ⟨.inr ⟨_, H124⟩, ?_⟩
 obtain ⟨r130, hr131⟩ : ∃ q, slices_Repeat_int_int ([((k73 : Nat) : Int)]) ((r101.length : Nat) : Int) = q := ⟨_, rfl⟩
 obtain ⟨D125, HP126, ro127, bk128, rr129⟩ := Own.enter0 H124
 refine GX.do 6 rfl (by kernel_rfl) (Do.call Try.call50 rfl (slices_Repeat_int_int_ok _ _ A121 1 1 ([((k73 : Nat) : Int)]) ((r101.length : Nat) : Int) r130 HP126 (rr129 _ 6 _ rfl row_rds) rfl (by simp) (by first | omega | exact ⟨rfl, by omega, by omega⟩) hr131) ?_)
 rintro _ w132 ⟨A135, c136, rfl, HQ133, hk137⟩
 have H134 := bk128 _ _ HQ133
 have hb138 := H134.rowC (i := 0) rfl
 replace hk137 : ((r130.length : Nat) : Int) = ((r101.length : Nat) : Int) := hk137
 have H139 := H134.pk [1, 2, 3, 4, 5, 6, 0, 7]
 refine ⟨.inr ⟨_, H139⟩, ?_⟩
 have H140 := H139.pk [5, 0, 1, 2, 3, 4, 6, 7]
 refine GX.do 7 rfl (by kernel_rfl) (Do.appendW (k := l79.length) (m := r130.length) (El45) H140 rfl rfl (src_of Try.underlying45 (H140.rds (i := 6) rfl) (flat_one eI_one r130)) rfl (by omega) (s := List.length (l79 ++ r130)) (by first | omega | (simp only [List.length_append, List.length_cons, List.length_nil] <;> omega)) (List.flatMap_append).symm ?_)
 intro A141 c142 w143 H144
 have hl145 : List.length (l79 ++ r130) = l79.length + r130.length := by simp only [List.length_append, List.length_cons, List.length_nil]
 refine ⟨.inl (by kernel_rfl), ?_⟩
 refine GX.takeA (v := .pointer (some ⟨g66, 2, none⟩)) 8 rfl (by kernel_rfl) (fun _ => yk) ?_
 have H146 := H144.pk [1, 0, 2, 3, 4, 5, 6, 7]
 refine GX.do0 9 rfl (by kernel_rfl) (Do.store (vs := [.slice A141 (List.length (l79 ++ r130)) c142]) (o := 2) H146 rfl rfl Try.sizeOf45 rfl rfl rfl rfl ?_)
 intro w147 H148
 refine ⟨.inl (by kernel_rfl), ?_⟩
 refine GX.done (by kernel_rfl) (bN (Fin.then ?_))
 have H149 := H148.pk [0, 1, 2, 4, 5]
 refine Wp.region (fw (.int .i64 ((k73 + 1 : Nat) : Int)) (Yl.int (e := IntKind.i64.wrap (((k73 : Nat) : Int) + 1)) yk (by rw [IntWalk.i64_in _ (by omega)]; omega)) (Mz rfl (WL.nil ?_)))
 have H150 := H149.pk [0, 3, 4, 2, 1]
 exact Fin.round (k73 + 1, A111, c112, (l76 ++ r101), A141, c142, (l79 ++ r130)) ⟨rfl, rfl, rfl, rfl, rfl, rfl, rfl, rfl, rfl, rfl, trivial⟩ (dm87.2 ⟨H150, by omega, by omega, by omega, et (hq88) (et (congrArg (fun q => owner_Cut_L1 l0 l49 k51 q k73 l76 l79) hd95) (et (bnd_of hr102) (bnd_of hr131)))⟩) (by show l1.length - (k73 + 1) < l1.length - k73; omega)
 refine jF (dF h92) (Wp.exit (Fin.thenX ?_))
 have hL151 : owner_Cut_L1 l0 l49 k51 l1 0 ([]) ([]) = (l76, l79) := et (hq88) (et (congrArg (fun q => owner_Cut_L1 l0 l49 k51 q k73 l76 l79) (drop_end (ls := l1) (i := k73) (by omega))) rfl)
 refine Fin.thenX (Fin.blockX (Fin.then (sr (Kz (.pointer (some ⟨g66, 1, none⟩)) (Lz (.slice A74 l76.length c75) H83 0 Try.isAgg41 (Kz (.int .i64 ((l76.length : Nat) : Int)) (Kz (.bool (decide (((l76.length : Nat) : Int) > 0))) (nt ?_))))))))
 by_cases h152 : ((l76.length : Nat) : Int) > 0
 refine jT (dT h152) (Wp.region (Mz rfl (La ([.int .i64 ((k51 : Nat) : Int), .slice A74 l76.length c75, .slice A77 l79.length c78]) H83 0 Try.isAgg47 Try.sizeOf47 ?_)))
 refine nrw [.int .i64 ((k51 : Nat) : Int), .slice A74 l76.length c75, .slice A77 l79.length c78] 47 3 1 H83 ?_
 intro A153 w154 H155
 replace H155 := Own.reh (y := row A153 1 1 (List.flatMap PartD.cells ([(PartD.mk ((k51 : Nat) : Int) (Sv.mk A74 c75 l76) (Sv.mk A77 c78 l79))])) 47 3) rfl H155
 have H156 := H155.pk [2, 3, 4, 5, 0, 1]
 refine WL.do rfl (Do.appendW (k := l49.length) (m := 1) (El42) H156 rfl rfl (src_of Try.underlying42 (H156.rds (i := 4) rfl) (flat_one PartD.one ([(PartD.mk ((k51 : Nat) : Int) (Sv.mk A74 c75 l76) (Sv.mk A77 c78 l79))]))) rfl (by omega) (s := List.length (l49 ++ [(PartT.mk ((k51 : Nat) : Int) (Ll.mk l76) (Ll.mk l79))])) (by first | omega | (simp only [List.length_append, List.length_cons, List.length_nil] <;> omega)) (List.flatMap_append).symm ?_)
 intro A157 c158 w159 H160
 have H161 := H160.pk [1, 2, 3, 0, 4, 5]
 have H162 : Own w D w159 [sepL (List.flatMap PartD.own (d50 ++ [(PartD.mk ((k51 : Nat) : Int) (Sv.mk A74 c75 l76) (Sv.mk A77 c78 l79))])), row A157 (List.length (l49 ++ [(PartT.mk ((k51 : Nat) : Int) (Ll.mk l76) (Ll.mk l79))])) c158 (List.flatMap PartD.cells (d50 ++ [(PartD.mk ((k51 : Nat) : Int) (Sv.mk A74 c75 l76) (Sv.mk A77 c78 l79))])) 47 3, row A153 1 1 (List.flatMap PartD.cells ([(PartD.mk ((k51 : Nat) : Int) (Sv.mk A74 c75 l76) (Sv.mk A77 c78 l79))])) 47 3, blk g66 [.int .i64 ((k51 : Nat) : Int), .slice A74 l76.length c75, .slice A77 l79.length c78] 47] := H161.sepAdd (L2 := [row A74 l76.length c75 (List.flatMap OpD.cells l76) 74 6, row A77 l79.length c78 (List.flatMap (eI .i64) l79) 3 1]) (List.flatMap_append (f := PartD.own) (xs := d50) (ys := [(PartD.mk ((k51 : Nat) : Int) (Sv.mk A74 c75 l76) (Sv.mk A77 c78 l79))])).symm
 have hl163 : List.length (l49 ++ [(PartT.mk ((k51 : Nat) : Int) (Ll.mk l76) (Ll.mk l79))]) = l49.length + 1 := by simp only [List.length_append, List.length_cons, List.length_nil]
 have hl164 := abs_len (abs_app (es := [(PartD.mk ((k51 : Nat) : Int) (Sv.mk A74 c75 l76) (Sv.mk A77 c78 l79))]) (ms := [(PartT.mk ((k51 : Nat) : Int) (Ll.mk l76) (Ll.mk l79))]) hi61 rfl)
 refine Az rfl (WL.nil (bN (Fin.then ?_)))
 have H165 := H162.pk [0, 1]
 refine Wp.region (fw (.int .i64 ((k51 + 1 : Nat) : Int)) (Yl.int (e := IntKind.i64.wrap (((k51 : Nat) : Int) + 1)) yk (by rw [IntWalk.i64_in _ (by omega)]; omega)) (Mz rfl (WL.nil ?_)))
 have H166 := H165.pk [1, 0]
 exact Fin.round (A157, c158, (d50 ++ [(PartD.mk ((k51 : Nat) : Int) (Sv.mk A74 c75 l76) (Sv.mk A77 c78 l79))]), (l49 ++ [(PartT.mk ((k51 : Nat) : Int) (Ll.mk l76) (Ll.mk l79))]), k51 + 1) ⟨rfl, rfl, rfl, rfl, rfl, rfl, trivial⟩ (dm59.2 ⟨H166, by exact (abs_app (es := [(PartD.mk ((k51 : Nat) : Int) (Sv.mk A74 c75 l76) (Sv.mk A77 c78 l79))]) (ms := [(PartT.mk ((k51 : Nat) : Int) (Ll.mk l76) (Ll.mk l79))]) hi61 rfl), by omega, by omega, et (hq60) (et (congrArg (fun q => owner_Cut_L0 l0 l1 q l49 k51) (sub_at (n := 5) (i := k51) (by omega))) (et (bnd_of hL151) (ip h152)))⟩) (by show 5 - (k51 + 1) < 5 - k51; omega)
 refine jF (dF h152) (Wp.skip (bN (Fin.then ?_)))
 have H167 := H83.pk [1, 2]
 refine Wp.region (fw (.int .i64 ((k51 + 1 : Nat) : Int)) (Yl.int (e := IntKind.i64.wrap (((k51 : Nat) : Int) + 1)) yk (by rw [IntWalk.i64_in _ (by omega)]; omega)) (Mz rfl (WL.nil ?_)))
 have H168 := H167.pk [0, 1]
 exact Fin.round (A47, c48, d50, l49, k51 + 1) ⟨rfl, rfl, rfl, rfl, rfl, rfl, trivial⟩ (dm59.2 ⟨H168, by exact hi61, by omega, by omega, et (hq60) (et (congrArg (fun q => owner_Cut_L0 l0 l1 q l49 k51) (sub_at (n := 5) (i := k51) (by omega))) (et (bnd_of hL151) (iN h152)))⟩) (by show 5 - (k51 + 1) < 5 - k51; omega)
 refine jF (dF h65) (Wp.exit (Fin.thenX ?_))
 have hL169 : owner_Cut_L0 l0 l1 5 ([]) 0 = l49 := et (hq60) (et (congrArg (fun q => owner_Cut_L0 l0 l1 q l49 k51) (sub_end (n := 5) (i := k51) (by omega))) rfl)
 refine Fin.thenX (Fin.blockX (Fin.then (sr (Mz rfl (Az rfl (An rfl (rt (Fin.res (res2 rfl rfl rfl) ?_))))))))
 have H170 := H55.pk [0, 1]
 have e : owner_Cut l0 l1 = (l49, 0) := et (bnd_of hr27) (et (ip h32) (et (bnd_of hr39) (et (ip h44) (bnd_of hL169))))
 obtain ⟨rfl, rfl⟩ := pj2 (e.symm.trans hr)
 exact ⟨A47, c48, d50, rfl, H170, hi61⟩
 refine jT (dT h44) (sr (Mz rfl (Az rfl (An rfl (rt (tR (Fin.res (res2 rfl rfl rfl) ?_)))))))
 have H171 : Own w D w40 [sepL (List.flatMap PartD.own ([]))] := H42.sepNil
 have H172 : Own w D w40 [row none 0 0 (List.flatMap PartD.cells ([])) 47 3, sepL (List.flatMap PartD.own ([]))] := H171.free (row_nil 47 3)
 have H173 := H172.pk [0, 1]
 have e : owner_Cut l0 l1 = ([], r38) := et (bnd_of hr27) (et (ip h32) (et (bnd_of hr39) (iN h44)))
 obtain ⟨rfl, rfl⟩ := pj2 (e.symm.trans hr)
 exact ⟨none, 0, [], rfl, H173, rfl⟩
 refine jT (dT h32) (sr (Mz rfl (Az rfl (An rfl (rt (tR (Fin.res (res2 rfl rfl rfl) ?_)))))))
 have H174 : Own w D w28 [sepL (List.flatMap PartD.own ([]))] := H30.sepNil
 have H175 : Own w D w28 [row none 0 0 (List.flatMap PartD.cells ([])) 47 3, sepL (List.flatMap PartD.own ([]))] := H174.free (row_nil 47 3)
 have H176 := H175.pk [0, 1]
 have e : owner_Cut l0 l1 = ([], r26) := et (bnd_of hr27) (iN h32)
 obtain ⟨rfl, rfl⟩ := pj2 (e.symm.trans hr)
 exact ⟨none, 0, [], rfl, H176, rfl⟩
def w17_two  : (List OwnerD) :=
 [(OwnerD.mk ([]) 1), (OwnerD.mk ([109]) 2)]
set_option maxRecDepth 100000 in
theorem w17_two_ok (w : World) (D : Nat → Prop)  (r0 : List OwnerD) (H : Own w D w [])  (hr : w17_two = r0) :
    Calls Try.prog 32 #[] w (Ret fun v w' => ∃ (B0 : Option Addr) (b0 : Nat), v = .slice B0 r0.length b0 ∧ Own w D w' [row B0 r0.length b0 (List.flatMap OwnerD.cells r0) 39 2] ∧ (r0.length = 2)) := by
 refine Calls.body (args := []) Try.func32 rfl rfl rfl ?_
 show Wp _ _ _ [] _ _
 refine sr (Ar rfl (Kz (.agg #[.string ⟨List.toArray ([])⟩, .int .i64 1]) (Kz (.agg #[.string ⟨List.toArray ([109])⟩, .int .i64 2]) ?_)))
 refine nrw [.string ⟨List.toArray ([])⟩, .int .i64 1, .string ⟨List.toArray ([109])⟩, .int .i64 2] 39 2 2 H ?_
 intro A21 w22 H23
 replace H23 : Own w D w22 [row A21 2 2 (List.flatMap OwnerD.cells ([(OwnerD.mk ([]) 1), (OwnerD.mk ([109]) 2)])) 39 2] := H23
 refine An rfl (rt (rs ?_))
 have H24 := H23.pk [0]
 obtain rfl : _ = [(OwnerD.mk ([]) 1), (OwnerD.mk ([109]) 2)] := hr.symm.trans rfl
 exact ⟨A21, 2, rfl, H24, (by first | omega | rfl)⟩
set_option maxRecDepth 100000 in
theorem cut_live : ∀ x ∈ (owner_Cut w17_two [(OpD.mk 2 ([122]) ([49]) ([]) ([]) 0), (OpD.mk 4 ([]) ([]) ([]) ([]) 3)]).1, x.xFrom.ls.length = x.xOps.ls.length := by decide +kernel
def w17_live  : Bool :=
 bnd (w17_two) fun yr26 => bnd (owner_Find yr26 ([122])) fun yr40 => bnd (w17_two) fun yr54 => bnd (owner_Split yr54 ([103])) fun yr68 => bnd (w17_two) fun yr85 => bnd (owner_Split yr85 ([109])) fun yr99 => bnd (w17_two) fun yr116 => bnd (owner_Cut yr116 ([(OpD.mk 2 ([122]) ([49]) ([]) ([]) 0), (OpD.mk 4 ([]) ([]) ([]) ([]) 3)])) fun yr133 => if yr40.1 = 1 then if yr40.2 = 0 then if ((yr68.1.length : Nat) : Int) = 3 then bnd (List.getD yr68.1 1 default) fun yx149 => if (yx149.xLo = ([103])) ∧ (yx149.xShard = 1) then if yr68.2 = 0 then if yr99.2 = 6 then if yr133.2 = 0 then if ((yr133.1.length : Nat) : Int) = 2 then bnd (List.getD yr133.1 0 default) fun yx156 => if ((yx156.xOps.ls.length : Nat) : Int) = 1 then bnd (List.getD yx156.xOps.ls 0 default) fun yx163 => if yx163.xHi = ([109]) then bnd (List.getD yx156.xFrom.ls 0 default) fun yx166 => if yx166 = 1 then bnd (List.getD yr133.1 1 default) fun yx169 => if ((yx169.xOps.ls.length : Nat) : Int) = 2 then bnd (List.getD yx169.xFrom.ls 1 default) fun yx176 => decide (yx176 = 1) else false else false else false else false else false else false else false else false else false else false else false else false
set_option maxRecDepth 100000 in
theorem w17_live_ok (w : World) (D : Nat → Prop)  (r0 : Bool) (H : Own w D w [])  (hr : w17_live = r0) :
    Calls Try.prog 9 #[] w (Ret fun v w' => v = .bool r0 ∧ Own w D w' []) := by
 refine Calls.body (args := []) Try.func9 rfl rfl rfl ?_
 show Wp _ _ _ [] _ _
 refine sr (Ar rfl ?_)
 obtain ⟨r26, hr27⟩ : ∃ q, w17_two = q := ⟨_, rfl⟩
 obtain ⟨D21, HP22, ro23, bk24, rr25⟩ := Own.enter0 H
 refine cl Try.call32 (w17_two_ok _ _ r26 HP22 hr27) ?_
 rintro _ w28 ⟨A31, c32, rfl, HQ29, hk33⟩
 have H30 := bk24 _ _ HQ29
 have hb34 := H30.rowC (i := 0) rfl
 replace hk33 : r26.length = 2 := hk33
 obtain ⟨⟨r40, r41⟩, hr42⟩ : ∃ q : Int × Int, owner_Find r26 ([122]) = q := ⟨_, rfl⟩
 obtain ⟨D35, HP36, ro37, bk38, rr39⟩ := Own.enter0 H30
 refine cl Try.call10 (owner_Find_ok _ _ A31 r26.length c32 r26 ([122]) r40 r41 HP36 (rr39 _ 0 _ rfl row_rds) rfl (by omega) hr42) ?_
 rintro _ w43 ⟨rfl, HQ44, hk46, hk47, hk48⟩
 have H45 := bk38 _ _ HQ44
 replace hk46 : ¬ (r41 = 0) ∨ (0 ≤ r40 ∧ r40 < ((r26.length : Nat) : Int) ∧ r26.length ≤ 6) := hk46
 replace hk47 : ¬ (owner_Check r26 = 0) ∨ 1 < 1 ∨ 1 > 12 ∨ (0 ≤ r40 ∧ r40 < ((r26.length : Nat) : Int)) := hk47
 replace hk48 : ¬ (r41 = 0) ∨ owner_Check r26 = 0 := hk48
 refine Mz rfl (Kz (.int .i64 r40) (Kz (.int .i64 r41) (Az rfl (Ar rfl ?_))))
 obtain ⟨r54, hr55⟩ : ∃ q, w17_two = q := ⟨_, rfl⟩
 obtain ⟨D49, HP50, ro51, bk52, rr53⟩ := Own.enter0 H45
 refine cl Try.call32 (w17_two_ok _ _ r54 HP50 hr55) ?_
 rintro _ w56 ⟨A59, c60, rfl, HQ57, hk61⟩
 have H58 := bk52 _ _ HQ57
 have hb62 := H58.rowC (i := 0) rfl
 replace hk61 : r54.length = 2 := hk61
 obtain ⟨⟨r68, r69⟩, hr70⟩ : ∃ q : (List OwnerD) × Int, owner_Split r54 ([103]) = q := ⟨_, rfl⟩
 obtain ⟨D63, HP64, ro65, bk66, rr67⟩ := Own.enter0 H58
 refine cl Try.call18 (owner_Split_ok _ _ A59 r54.length c60 r54 ([103]) r68 r69 HP64 (rr67 _ 0 _ rfl row_rds) rfl (by omega) hr70) ?_
 rintro _ w71 ⟨A74, c75, rfl, HQ72, hk76, hk77⟩
 have H73 := bk66 _ _ HQ72
 have hb78 := H73.rowC (i := 0) rfl
 replace hk76 : r68.length ≤ 6 := hk76
 replace hk77 : ¬ (r69 = 0) ∨ owner_Check r54 = 0 := hk77
 refine Mz rfl (Kz (.slice A74 r68.length c75) (Kz (.int .i64 r69) (Az rfl (An rfl (Wp.seq ?_)))))
 have H79 := H73.pk [0]
 refine Wp.region ?_
 obtain ⟨r85, hr86⟩ : ∃ q, w17_two = q := ⟨_, rfl⟩
 obtain ⟨D80, HP81, ro82, bk83, rr84⟩ := Own.enter0 H79
 refine cl Try.call32 (w17_two_ok _ _ r85 HP81 hr86) ?_
 rintro _ w87 ⟨A90, c91, rfl, HQ88, hk92⟩
 have H89 := bk83 _ _ HQ88
 have hb93 := H89.rowC (i := 0) rfl
 replace hk92 : r85.length = 2 := hk92
 obtain ⟨⟨r99, r100⟩, hr101⟩ : ∃ q : (List OwnerD) × Int, owner_Split r85 ([109]) = q := ⟨_, rfl⟩
 obtain ⟨D94, HP95, ro96, bk97, rr98⟩ := Own.enter0 H89
 refine cl Try.call18 (owner_Split_ok _ _ A90 r85.length c91 r85 ([109]) r99 r100 HP95 (rr98 _ 0 _ rfl row_rds) rfl (by omega) hr101) ?_
 rintro _ w102 ⟨A105, c106, rfl, HQ103, hk107, hk108⟩
 have H104 := bk97 _ _ HQ103
 have hb109 := H104.rowC (i := 0) rfl
 replace hk107 : r99.length ≤ 6 := hk107
 replace hk108 : ¬ (r100 = 0) ∨ owner_Check r85 = 0 := hk108
 refine Mz rfl (Kz (.slice A105 r99.length c106) (Kz (.int .i64 r100) (Az rfl (An rfl (Wp.seq ?_)))))
 have H110 := H104.pk [2]
 refine Wp.region ?_
 obtain ⟨r116, hr117⟩ : ∃ q, w17_two = q := ⟨_, rfl⟩
 obtain ⟨D111, HP112, ro113, bk114, rr115⟩ := Own.enter0 H110
 refine cl Try.call32 (w17_two_ok _ _ r116 HP112 hr117) ?_
 rintro _ w118 ⟨A121, c122, rfl, HQ119, hk123⟩
 have H120 := bk114 _ _ HQ119
 have hb124 := H120.rowC (i := 0) rfl
 replace hk123 : r116.length = 2 := hk123
 refine Kz (.agg #[.int .i64 2, .string ⟨List.toArray ([122])⟩, .string ⟨List.toArray ([49])⟩, .string ⟨List.toArray ([])⟩, .string ⟨List.toArray ([])⟩, .int .i64 0]) (Kz (.agg #[.int .i64 4, .string ⟨List.toArray ([])⟩, .string ⟨List.toArray ([])⟩, .string ⟨List.toArray ([])⟩, .string ⟨List.toArray ([])⟩, .int .i64 3]) ?_)
 refine nrw [.int .i64 2, .string ⟨List.toArray ([122])⟩, .string ⟨List.toArray ([49])⟩, .string ⟨List.toArray ([])⟩, .string ⟨List.toArray ([])⟩, .int .i64 0, .int .i64 4, .string ⟨List.toArray ([])⟩, .string ⟨List.toArray ([])⟩, .string ⟨List.toArray ([])⟩, .string ⟨List.toArray ([])⟩, .int .i64 3] 74 6 2 H120 ?_
 intro A125 w126 H127
 replace H127 := Own.reh (y := row A125 2 2 (List.flatMap OpD.cells ([(OpD.mk 2 ([122]) ([49]) ([]) ([]) 0), (OpD.mk 4 ([]) ([]) ([]) ([]) 3)])) 74 6) rfl H127
 obtain ⟨⟨r133, r134⟩, hr135⟩ : ∃ q : (List PartT) × Int, owner_Cut r116 ([(OpD.mk 2 ([122]) ([49]) ([]) ([]) 0), (OpD.mk 4 ([]) ([]) ([]) ([]) 3)]) = q := ⟨_, rfl⟩
 obtain ⟨D128, HP129, ro130, bk131, rr132⟩ := Own.enter0 H127
 refine cl Try.call26 (owner_Cut_ok _ _ A121 r116.length c122 r116 A125 2 2 ([(OpD.mk 2 ([122]) ([49]) ([]) ([]) 0), (OpD.mk 4 ([]) ([]) ([]) ([]) 3)]) r133 r134 HP129 (rr132 _ 1 _ rfl row_rds) rfl (by omega) (rr132 _ 0 _ rfl row_rds) rfl (by simp) hr135) ?_
 rintro _ w136 ⟨A139, c140, d141, rfl, HQ137, hd142⟩
 have H138 := bk131 _ _ HQ137
 have hl143 := abs_len hd142
 have hb144 := H138.rowC (i := 0) rfl
 refine Mz rfl (Kz (.slice A139 r133.length c140) (Kz (.int .i64 r134) (Az rfl (An rfl (Wp.seq ?_)))))
 have H145 := H138.pk [0, 1, 4]
 refine Wp.region (Mz rfl (Kz (.bool (decide (r40 = 1))) (Mz rfl ?_)))
 by_cases h146 : r40 = 1
 refine gw (.int .i64 r41) (dT h146) (Yl.move rfl) (Gz (.bool (decide (r41 = 0))) (dT h146) (fw (.bool (decide (r41 = 0))) (Yl.pickT rfl (dT h146) rfl) (Mz rfl ?_)))
 by_cases h147 : r41 = 0
 refine gw (.slice A74 r68.length c75) (dT h147) (Yl.move rfl) (Gz (.int .i64 ((r68.length : Nat) : Int)) (dT h147) (Gz (.bool (decide (((r68.length : Nat) : Int) = 3))) (dT h147) (fw (.bool (decide (((r68.length : Nat) : Int) = 3))) (Yl.pickT rfl (dT h147) rfl) (Mz rfl ?_))))
 by_cases h148 : ((r68.length : Nat) : Int) = 3
 refine gw (.slice A74 r68.length c75) (dT h148) (Yl.move rfl) ?_
 obtain ⟨x149, hx150⟩ := rds_at (ls := r68) (i := 1) OwnerD.len (by decide) (H145.rds (i := 2) rfl) (by first | omega | (simp; done) | (simp; omega))
 refine gw (.pointer (some ⟨ab A74, ao A74 + 1 * 2, none⟩)) (dT h148) (Yl.indexAddr (El22) rfl rfl ((H145.rds (i := 2) rfl).addr (i := 1) (by omega)) (by omega)) (gw (.agg (OwnerD.cells x149).toArray) (dT h148) (Yl.load rfl (Lds.agg (cs := (OwnerD.cells x149)) Try.isAgg39 Try.sizeOf39 ((H145.rds (i := 2) rfl).elem OwnerD.len hx150 (by decide)))) (Gz (.agg #[.string ⟨List.toArray ([103])⟩, .int .i64 1]) (dT h148) (gw (.bool (decide ((x149.xLo = ([103])) ∧ (x149.xShard = 1)))) (dT h148) (Yl.eqAgg rfl rfl (by kernel_rfl) rfl (Eqv.struct Try.underlying39 (by kernel_rfl) (EqF.dec (EqF.cons (u := .string ⟨List.toArray x149.xLo⟩) (v := .string ⟨List.toArray ([103])⟩) (by decide) (fun _ => by kernel_rfl) (fun _ => by kernel_rfl) (Eqv.string Try.underlying9) (EqF.cons (u := .int .i64 x149.xShard) (v := .int .i64 1) (by decide) (fun _ => by kernel_rfl) (fun _ => by kernel_rfl) (Eqv.int Try.underlying3) (EqF.nil.up (Nat.zero_le _)))) ((congrArg (decide (x149.xLo = ([103])) && ·) and_dec1).trans and_dec)))) (fw (.bool (decide ((x149.xLo = ([103])) ∧ (x149.xShard = 1)))) (Yl.pickT rfl (dT h148) rfl) (Mz rfl ?_)))))
 by_cases h151 : (x149.xLo = ([103])) ∧ (x149.xShard = 1)
 refine gw (.int .i64 r69) (dT h151) (Yl.move rfl) (Gz (.bool (decide (r69 = 0))) (dT h151) (fw (.bool (decide (r69 = 0))) (Yl.pickT rfl (dT h151) rfl) (Mz rfl ?_)))
 by_cases h152 : r69 = 0
 refine gw (.int .i64 r100) (dT h152) (Yl.move rfl) (Gz (.bool (decide (r100 = 6))) (dT h152) (fw (.bool (decide (r100 = 6))) (Yl.pickT rfl (dT h152) rfl) (Mz rfl ?_)))
 by_cases h153 : r100 = 6
 refine gw (.int .i64 r134) (dT h153) (Yl.move rfl) (Gz (.bool (decide (r134 = 0))) (dT h153) (fw (.bool (decide (r134 = 0))) (Yl.pickT rfl (dT h153) rfl) (Mz rfl ?_)))
 by_cases h154 : r134 = 0
 refine gw (.slice A139 r133.length c140) (dT h154) (Yl.move rfl) (Gz (.int .i64 ((r133.length : Nat) : Int)) (dT h154) (Gz (.bool (decide (((r133.length : Nat) : Int) = 2))) (dT h154) (fw (.bool (decide (((r133.length : Nat) : Int) = 2))) (Yl.pickT rfl (dT h154) rfl) (Mz rfl ?_))))
 by_cases h155 : ((r133.length : Nat) : Int) = 2
 refine gw (.slice A139 r133.length c140) (dT h155) (Yl.move rfl) ?_
 obtain ⟨x156, hx157⟩ := rds_at (ls := d141) (i := 0) PartD.len (by decide) (H145.rds (i := 0) rfl) (by first | omega | (simp; done) | (simp; omega))
 have hX158 := abs_at hd142 hx157
 have hb159 : x156.xOps.ls.length ≤ x156.xOps.c ∧ x156.xOps.ls.length ≤ 9223372036854775807 := own_rd H145 (i := 1) rfl (φ := fun _ => _) (sepL_mem (List.mem_flatMap.2 ⟨x156, List.mem_of_getElem? hx157, .head _⟩) row_le2)
 have hb160 : x156.xFrom.ls.length ≤ x156.xFrom.c ∧ x156.xFrom.ls.length ≤ 9223372036854775807 := own_rd H145 (i := 1) rfl (φ := fun _ => _) (sepL_mem (List.mem_flatMap.2 ⟨x156, List.mem_of_getElem? hx157, .tail _ (.head _)⟩) row_le2)
 have hz161 : x156.xFrom.ls.length = x156.xOps.ls.length := cut_live _ (by rw [show owner_Cut w17_two ([(OpD.mk 2 ([122]) ([49]) ([]) ([]) 0), (OpD.mk 4 ([]) ([]) ([]) ([]) 3)]) = (r133, r134) from by rw [hr117]; exact hr135]; exact List.mem_of_getElem? hX158)
 refine gw (.pointer (some ⟨ab A139, ao A139 + 0 * 3, none⟩)) (dT h155) (Yl.indexAddr (El42) rfl rfl ((H145.rds (i := 0) rfl).addr (i := 0) (by omega)) (by omega)) (Gz (.pointer (some ⟨ab A139, ao A139 + 0 * 3 + 1, none⟩)) (dT h155) (gw (.slice x156.xOps.A x156.xOps.ls.length x156.xOps.c) (dT h155) (Yl.load rfl (Lds.one Try.isAgg41 (((H145.rds (i := 0) rfl).elem PartD.len hx157 (by decide)).at_ (k := 1) rfl))) (Gz (.int .i64 ((x156.xOps.ls.length : Nat) : Int)) (dT h155) (Gz (.bool (decide (((x156.xOps.ls.length : Nat) : Int) = 1))) (dT h155) (fw (.bool (decide (((x156.xOps.ls.length : Nat) : Int) = 1))) (Yl.pickT rfl (dT h155) rfl) (Mz rfl ?_))))))
 by_cases h162 : ((x156.xOps.ls.length : Nat) : Int) = 1
 refine gw (.slice A139 r133.length c140) (dT h162) (Yl.move rfl) (gw (.pointer (some ⟨ab A139, ao A139 + 0 * 3, none⟩)) (dT h162) (Yl.indexAddr (El42) rfl rfl ((H145.rds (i := 0) rfl).addr (i := 0) (by omega)) (by omega)) (Gz (.pointer (some ⟨ab A139, ao A139 + 0 * 3 + 1, none⟩)) (dT h162) (gw (.slice x156.xOps.A x156.xOps.ls.length x156.xOps.c) (dT h162) (Yl.load rfl (Lds.one Try.isAgg41 (((H145.rds (i := 0) rfl).elem PartD.len hx157 (by decide)).at_ (k := 1) rfl))) ?_)))
 obtain ⟨x163, hx164⟩ := rds_at (ls := x156.xOps.ls) (i := 0) OpD.len (by decide) (own_rd H145 (i := 1) rfl (sepL_mem (List.mem_flatMap.2 ⟨x156, List.mem_of_getElem? hx157, .head _⟩) row_rds)) (by first | omega | (simp; done) | (simp; omega))
 refine gw (.pointer (some ⟨ab x156.xOps.A, ao x156.xOps.A + 0 * 6, none⟩)) (dT h162) (Yl.indexAddr (El41) rfl rfl ((own_rd H145 (i := 1) rfl (sepL_mem (List.mem_flatMap.2 ⟨x156, List.mem_of_getElem? hx157, .head _⟩) row_rds)).addr (i := 0) (by omega)) (by omega)) (Gz (.pointer (some ⟨ab x156.xOps.A, ao x156.xOps.A + 0 * 6 + 4, none⟩)) (dT h162) (gw (.string ⟨List.toArray x163.xHi⟩) (dT h162) (Yl.load rfl (Lds.one Try.isAgg9 (((own_rd H145 (i := 1) rfl (sepL_mem (List.mem_flatMap.2 ⟨x156, List.mem_of_getElem? hx157, .head _⟩) row_rds)).elem OpD.len hx164 (by decide)).at_ (k := 4) rfl))) (gw (.bool (decide (x163.xHi = ([109])))) (dT h162) (Yl.strEq rfl rfl) (fw (.bool (decide (x163.xHi = ([109])))) (Yl.pickT rfl (dT h162) rfl) (Mz rfl ?_)))))
 by_cases h165 : x163.xHi = ([109])
 refine gw (.slice A139 r133.length c140) (dT h165) (Yl.move rfl) (gw (.pointer (some ⟨ab A139, ao A139 + 0 * 3, none⟩)) (dT h165) (Yl.indexAddr (El42) rfl rfl ((H145.rds (i := 0) rfl).addr (i := 0) (by omega)) (by omega)) (Gz (.pointer (some ⟨ab A139, ao A139 + 0 * 3 + 2, none⟩)) (dT h165) (gw (.slice x156.xFrom.A x156.xFrom.ls.length x156.xFrom.c) (dT h165) (Yl.load rfl (Lds.one Try.isAgg45 (((H145.rds (i := 0) rfl).elem PartD.len hx157 (by decide)).at_ (k := 2) rfl))) ?_)))
 obtain ⟨x166, hx167⟩ := rds_at (ls := x156.xFrom.ls) (i := 0) eI_len (by decide) (own_rd H145 (i := 1) rfl (sepL_mem (List.mem_flatMap.2 ⟨x156, List.mem_of_getElem? hx157, .tail _ (.head _)⟩) row_rds)) (by first | omega | (simp; done) | (simp; omega))
 refine gw (.pointer (some ⟨ab x156.xFrom.A, ao x156.xFrom.A + 0 * 1, none⟩)) (dT h165) (Yl.indexAddr (El45) rfl rfl ((own_rd H145 (i := 1) rfl (sepL_mem (List.mem_flatMap.2 ⟨x156, List.mem_of_getElem? hx157, .tail _ (.head _)⟩) row_rds)).addr (i := 0) (by omega)) (by omega)) (gw (.int .i64 x166) (dT h165) (Yl.load rfl (Lds.one Try.isAgg3 (((own_rd H145 (i := 1) rfl (sepL_mem (List.mem_flatMap.2 ⟨x156, List.mem_of_getElem? hx157, .tail _ (.head _)⟩) row_rds)).elem eI_len hx167 (by decide)).at_ (k := 0) rfl))) (Gz (.bool (decide (x166 = 1))) (dT h165) (fw (.bool (decide (x166 = 1))) (Yl.pickT rfl (dT h165) rfl) (Mz rfl ?_))))
 by_cases h168 : x166 = 1
 refine gw (.slice A139 r133.length c140) (dT h168) (Yl.move rfl) ?_
 obtain ⟨x169, hx170⟩ := rds_at (ls := d141) (i := 1) PartD.len (by decide) (H145.rds (i := 0) rfl) (by first | omega | (simp; done) | (simp; omega))
 have hX171 := abs_at hd142 hx170
 have hb172 : x169.xOps.ls.length ≤ x169.xOps.c ∧ x169.xOps.ls.length ≤ 9223372036854775807 := own_rd H145 (i := 1) rfl (φ := fun _ => _) (sepL_mem (List.mem_flatMap.2 ⟨x169, List.mem_of_getElem? hx170, .head _⟩) row_le2)
 have hb173 : x169.xFrom.ls.length ≤ x169.xFrom.c ∧ x169.xFrom.ls.length ≤ 9223372036854775807 := own_rd H145 (i := 1) rfl (φ := fun _ => _) (sepL_mem (List.mem_flatMap.2 ⟨x169, List.mem_of_getElem? hx170, .tail _ (.head _)⟩) row_le2)
 have hz174 : x169.xFrom.ls.length = x169.xOps.ls.length := cut_live _ (by rw [show owner_Cut w17_two ([(OpD.mk 2 ([122]) ([49]) ([]) ([]) 0), (OpD.mk 4 ([]) ([]) ([]) ([]) 3)]) = (r133, r134) from by rw [hr117]; exact hr135]; exact List.mem_of_getElem? hX171)
 refine gw (.pointer (some ⟨ab A139, ao A139 + 1 * 3, none⟩)) (dT h168) (Yl.indexAddr (El42) rfl rfl ((H145.rds (i := 0) rfl).addr (i := 1) (by omega)) (by omega)) (Gz (.pointer (some ⟨ab A139, ao A139 + 1 * 3 + 1, none⟩)) (dT h168) (gw (.slice x169.xOps.A x169.xOps.ls.length x169.xOps.c) (dT h168) (Yl.load rfl (Lds.one Try.isAgg41 (((H145.rds (i := 0) rfl).elem PartD.len hx170 (by decide)).at_ (k := 1) rfl))) (Gz (.int .i64 ((x169.xOps.ls.length : Nat) : Int)) (dT h168) (Gz (.bool (decide (((x169.xOps.ls.length : Nat) : Int) = 2))) (dT h168) (fw (.bool (decide (((x169.xOps.ls.length : Nat) : Int) = 2))) (Yl.pickT rfl (dT h168) rfl) (Mz rfl ?_))))))
 by_cases h175 : ((x169.xOps.ls.length : Nat) : Int) = 2
 refine gw (.slice A139 r133.length c140) (dT h175) (Yl.move rfl) (gw (.pointer (some ⟨ab A139, ao A139 + 1 * 3, none⟩)) (dT h175) (Yl.indexAddr (El42) rfl rfl ((H145.rds (i := 0) rfl).addr (i := 1) (by omega)) (by omega)) (Gz (.pointer (some ⟨ab A139, ao A139 + 1 * 3 + 2, none⟩)) (dT h175) (gw (.slice x169.xFrom.A x169.xFrom.ls.length x169.xFrom.c) (dT h175) (Yl.load rfl (Lds.one Try.isAgg45 (((H145.rds (i := 0) rfl).elem PartD.len hx170 (by decide)).at_ (k := 2) rfl))) ?_)))
 obtain ⟨x176, hx177⟩ := rds_at (ls := x169.xFrom.ls) (i := 1) eI_len (by decide) (own_rd H145 (i := 1) rfl (sepL_mem (List.mem_flatMap.2 ⟨x169, List.mem_of_getElem? hx170, .tail _ (.head _)⟩) row_rds)) (by first | omega | (simp; done) | (simp; omega))
 refine gw (.pointer (some ⟨ab x169.xFrom.A, ao x169.xFrom.A + 1 * 1, none⟩)) (dT h175) (Yl.indexAddr (El45) rfl rfl ((own_rd H145 (i := 1) rfl (sepL_mem (List.mem_flatMap.2 ⟨x169, List.mem_of_getElem? hx170, .tail _ (.head _)⟩) row_rds)).addr (i := 1) (by omega)) (by omega)) (gw (.int .i64 x176) (dT h175) (Yl.load rfl (Lds.one Try.isAgg3 (((own_rd H145 (i := 1) rfl (sepL_mem (List.mem_flatMap.2 ⟨x169, List.mem_of_getElem? hx170, .tail _ (.head _)⟩) row_rds)).elem eI_len hx177 (by decide)).at_ (k := 0) rfl))) (Gz (.bool (decide (x176 = 1))) (dT h175) (fw (.bool (decide (x176 = 1))) (Yl.pickT rfl (dT h175) rfl) (An rfl (rt (rs ?_))))))
 have H178 := H145.pk []
 obtain rfl : _ = decide (x176 = 1) := hr.symm.trans (et (bnd_of hr27) (et (bnd_of hr42) (et (bnd_of hr55) (et (bnd_of hr70) (et (bnd_of hr86) (et (bnd_of hr101) (et (bnd_of hr117) (et (bnd_of hr135) (et (ip h146) (et (ip h147) (et (ip h148) (et (bnd_of (getD_of hx150)) (et (ip h151) (et (ip h152) (et (ip h153) (et (ip h154) (et (ip h155) (et (bnd_of (getD_of hX158)) (et (ip h162) (et (bnd_of (getD_of hx164)) (et (ip h165) (et (bnd_of (getD_of hx167)) (et (ip h168) (et (bnd_of (getD_of hX171)) (et (ip h175) (bnd_of (getD_of hx177)))))))))))))))))))))))))))
 exact ⟨rfl, H178⟩
 refine Sz (dF h175) (Sz (dF h175) (Sz (dF h175) (Sz (dF h175) (Sz (dF h175) (Sz (dF h175) (Sz (dF h175) (fw (.bool false) (Yl.pickF rfl (dF h175) rfl) (An rfl (rt (rs ?_))))))))))
 have H179 := H145.pk []
 obtain rfl : _ = false := hr.symm.trans (et (bnd_of hr27) (et (bnd_of hr42) (et (bnd_of hr55) (et (bnd_of hr70) (et (bnd_of hr86) (et (bnd_of hr101) (et (bnd_of hr117) (et (bnd_of hr135) (et (ip h146) (et (ip h147) (et (ip h148) (et (bnd_of (getD_of hx150)) (et (ip h151) (et (ip h152) (et (ip h153) (et (ip h154) (et (ip h155) (et (bnd_of (getD_of hX158)) (et (ip h162) (et (bnd_of (getD_of hx164)) (et (ip h165) (et (bnd_of (getD_of hx167)) (et (ip h168) (et (bnd_of (getD_of hX171)) (iN h175)))))))))))))))))))))))))
 exact ⟨rfl, H179⟩
 refine Sz (dF h168) (Sz (dF h168) (Sz (dF h168) (Sz (dF h168) (Sz (dF h168) (Sz (dF h168) (fw (.bool false) (Yl.pickF rfl (dF h168) rfl) (Mz rfl (Sz rfl (Sz rfl (Sz rfl (Sz rfl (Sz rfl (Sz rfl (Sz rfl (fw (.bool false) (Yl.pickF rfl rfl rfl) (An rfl (rt (rs ?_))))))))))))))))))
 have H180 := H145.pk []
 obtain rfl : _ = false := hr.symm.trans (et (bnd_of hr27) (et (bnd_of hr42) (et (bnd_of hr55) (et (bnd_of hr70) (et (bnd_of hr86) (et (bnd_of hr101) (et (bnd_of hr117) (et (bnd_of hr135) (et (ip h146) (et (ip h147) (et (ip h148) (et (bnd_of (getD_of hx150)) (et (ip h151) (et (ip h152) (et (ip h153) (et (ip h154) (et (ip h155) (et (bnd_of (getD_of hX158)) (et (ip h162) (et (bnd_of (getD_of hx164)) (et (ip h165) (et (bnd_of (getD_of hx167)) (iN h168)))))))))))))))))))))))
 exact ⟨rfl, H180⟩
 refine Sz (dF h165) (Sz (dF h165) (Sz (dF h165) (Sz (dF h165) (Sz (dF h165) (Sz (dF h165) (Sz (dF h165) (fw (.bool false) (Yl.pickF rfl (dF h165) rfl) (Mz rfl (Sz rfl (Sz rfl (Sz rfl (Sz rfl (Sz rfl (Sz rfl (fw (.bool false) (Yl.pickF rfl rfl rfl) (Mz rfl (Sz rfl (Sz rfl (Sz rfl (Sz rfl (Sz rfl (Sz rfl (Sz rfl (fw (.bool false) (Yl.pickF rfl rfl rfl) (An rfl (rt (rs ?_)))))))))))))))))))))))))))
 have H181 := H145.pk []
 obtain rfl : _ = false := hr.symm.trans (et (bnd_of hr27) (et (bnd_of hr42) (et (bnd_of hr55) (et (bnd_of hr70) (et (bnd_of hr86) (et (bnd_of hr101) (et (bnd_of hr117) (et (bnd_of hr135) (et (ip h146) (et (ip h147) (et (ip h148) (et (bnd_of (getD_of hx150)) (et (ip h151) (et (ip h152) (et (ip h153) (et (ip h154) (et (ip h155) (et (bnd_of (getD_of hX158)) (et (ip h162) (et (bnd_of (getD_of hx164)) (iN h165)))))))))))))))))))))
 exact ⟨rfl, H181⟩
 refine Sz (dF h162) (Sz (dF h162) (Sz (dF h162) (Sz (dF h162) (Sz (dF h162) (Sz (dF h162) (Sz (dF h162) (Sz (dF h162) (fw (.bool false) (Yl.pickF rfl (dF h162) rfl) (Mz rfl (Sz rfl (Sz rfl (Sz rfl (Sz rfl (Sz rfl (Sz rfl (Sz rfl (fw (.bool false) (Yl.pickF rfl rfl rfl) (Mz rfl (Sz rfl (Sz rfl (Sz rfl (Sz rfl (Sz rfl (Sz rfl (fw (.bool false) (Yl.pickF rfl rfl rfl) (Mz rfl (Sz rfl (Sz rfl (Sz rfl (Sz rfl (Sz rfl (Sz rfl (Sz rfl (fw (.bool false) (Yl.pickF rfl rfl rfl) (An rfl (rt (rs ?_)))))))))))))))))))))))))))))))))))))
 have H182 := H145.pk []
 obtain rfl : _ = false := hr.symm.trans (et (bnd_of hr27) (et (bnd_of hr42) (et (bnd_of hr55) (et (bnd_of hr70) (et (bnd_of hr86) (et (bnd_of hr101) (et (bnd_of hr117) (et (bnd_of hr135) (et (ip h146) (et (ip h147) (et (ip h148) (et (bnd_of (getD_of hx150)) (et (ip h151) (et (ip h152) (et (ip h153) (et (ip h154) (et (ip h155) (et (bnd_of (getD_of hX158)) (iN h162)))))))))))))))))))
 exact ⟨rfl, H182⟩
 refine Sz (dF h155) (Sz (dF h155) (Sz (dF h155) (Sz (dF h155) (Sz (dF h155) (Sz (dF h155) (fw (.bool false) (Yl.pickF rfl (dF h155) rfl) (Mz rfl (Sz rfl (Sz rfl (Sz rfl (Sz rfl (Sz rfl (Sz rfl (Sz rfl (Sz rfl (fw (.bool false) (Yl.pickF rfl rfl rfl) (Mz rfl (Sz rfl (Sz rfl (Sz rfl (Sz rfl (Sz rfl (Sz rfl (Sz rfl (fw (.bool false) (Yl.pickF rfl rfl rfl) (Mz rfl (Sz rfl (Sz rfl (Sz rfl (Sz rfl (Sz rfl (Sz rfl (fw (.bool false) (Yl.pickF rfl rfl rfl) (Mz rfl (Sz rfl (Sz rfl (Sz rfl (Sz rfl (Sz rfl ?_)))))))))))))))))))))))))))))))))))))))
 refine Sz rfl (Sz rfl (fw (.bool false) (Yl.pickF rfl rfl rfl) (An rfl (rt (rs ?_)))))
 have H183 := H145.pk []
 obtain rfl : _ = false := hr.symm.trans (et (bnd_of hr27) (et (bnd_of hr42) (et (bnd_of hr55) (et (bnd_of hr70) (et (bnd_of hr86) (et (bnd_of hr101) (et (bnd_of hr117) (et (bnd_of hr135) (et (ip h146) (et (ip h147) (et (ip h148) (et (bnd_of (getD_of hx150)) (et (ip h151) (et (ip h152) (et (ip h153) (et (ip h154) (iN h155)))))))))))))))))
 exact ⟨rfl, H183⟩
 refine Sz (dF h154) (Sz (dF h154) (Sz (dF h154) (fw (.bool false) (Yl.pickF rfl (dF h154) rfl) (Mz rfl (Sz rfl (Sz rfl (Sz rfl (Sz rfl (Sz rfl (Sz rfl (fw (.bool false) (Yl.pickF rfl rfl rfl) (Mz rfl (Sz rfl (Sz rfl (Sz rfl (Sz rfl (Sz rfl (Sz rfl (Sz rfl (Sz rfl (fw (.bool false) (Yl.pickF rfl rfl rfl) (Mz rfl (Sz rfl (Sz rfl (Sz rfl (Sz rfl (Sz rfl (Sz rfl (Sz rfl (fw (.bool false) (Yl.pickF rfl rfl rfl) (Mz rfl (Sz rfl (Sz rfl (Sz rfl (Sz rfl (Sz rfl (Sz rfl (fw (.bool false) (Yl.pickF rfl rfl rfl) (Mz rfl ?_)))))))))))))))))))))))))))))))))))))))
 refine Sz rfl (Sz rfl (Sz rfl (Sz rfl (Sz rfl (Sz rfl (Sz rfl (fw (.bool false) (Yl.pickF rfl rfl rfl) (An rfl (rt (rs ?_))))))))))
 have H184 := H145.pk []
 obtain rfl : _ = false := hr.symm.trans (et (bnd_of hr27) (et (bnd_of hr42) (et (bnd_of hr55) (et (bnd_of hr70) (et (bnd_of hr86) (et (bnd_of hr101) (et (bnd_of hr117) (et (bnd_of hr135) (et (ip h146) (et (ip h147) (et (ip h148) (et (bnd_of (getD_of hx150)) (et (ip h151) (et (ip h152) (et (ip h153) (iN h154))))))))))))))))
 exact ⟨rfl, H184⟩
 refine Sz (dF h153) (Sz (dF h153) (fw (.bool false) (Yl.pickF rfl (dF h153) rfl) (Mz rfl (Sz rfl (Sz rfl (Sz rfl (fw (.bool false) (Yl.pickF rfl rfl rfl) (Mz rfl (Sz rfl (Sz rfl (Sz rfl (Sz rfl (Sz rfl (Sz rfl (fw (.bool false) (Yl.pickF rfl rfl rfl) (Mz rfl (Sz rfl (Sz rfl (Sz rfl (Sz rfl (Sz rfl (Sz rfl (Sz rfl (Sz rfl (fw (.bool false) (Yl.pickF rfl rfl rfl) (Mz rfl (Sz rfl (Sz rfl (Sz rfl (Sz rfl (Sz rfl (Sz rfl (Sz rfl (fw (.bool false) (Yl.pickF rfl rfl rfl) (Mz rfl (Sz rfl (Sz rfl (Sz rfl (Sz rfl ?_)))))))))))))))))))))))))))))))))))))))
 refine Sz rfl (Sz rfl (fw (.bool false) (Yl.pickF rfl rfl rfl) (Mz rfl (Sz rfl (Sz rfl (Sz rfl (Sz rfl (Sz rfl (Sz rfl (Sz rfl (fw (.bool false) (Yl.pickF rfl rfl rfl) (An rfl (rt (rs ?_))))))))))))))
 have H185 := H145.pk []
 obtain rfl : _ = false := hr.symm.trans (et (bnd_of hr27) (et (bnd_of hr42) (et (bnd_of hr55) (et (bnd_of hr70) (et (bnd_of hr86) (et (bnd_of hr101) (et (bnd_of hr117) (et (bnd_of hr135) (et (ip h146) (et (ip h147) (et (ip h148) (et (bnd_of (getD_of hx150)) (et (ip h151) (et (ip h152) (iN h153)))))))))))))))
 exact ⟨rfl, H185⟩
 refine Sz (dF h152) (Sz (dF h152) (fw (.bool false) (Yl.pickF rfl (dF h152) rfl) (Mz rfl (Sz rfl (Sz rfl (fw (.bool false) (Yl.pickF rfl rfl rfl) (Mz rfl (Sz rfl (Sz rfl (Sz rfl (fw (.bool false) (Yl.pickF rfl rfl rfl) (Mz rfl (Sz rfl (Sz rfl (Sz rfl (Sz rfl (Sz rfl (Sz rfl (fw (.bool false) (Yl.pickF rfl rfl rfl) (Mz rfl (Sz rfl (Sz rfl (Sz rfl (Sz rfl (Sz rfl (Sz rfl (Sz rfl (Sz rfl (fw (.bool false) (Yl.pickF rfl rfl rfl) (Mz rfl (Sz rfl (Sz rfl (Sz rfl (Sz rfl (Sz rfl (Sz rfl (Sz rfl (fw (.bool false) (Yl.pickF rfl rfl rfl) (Mz rfl ?_)))))))))))))))))))))))))))))))))))))))
 refine Sz rfl (Sz rfl (Sz rfl (Sz rfl (Sz rfl (Sz rfl (fw (.bool false) (Yl.pickF rfl rfl rfl) (Mz rfl (Sz rfl (Sz rfl (Sz rfl (Sz rfl (Sz rfl (Sz rfl (Sz rfl (fw (.bool false) (Yl.pickF rfl rfl rfl) (An rfl (rt (rs ?_))))))))))))))))))
 have H186 := H145.pk []
 obtain rfl : _ = false := hr.symm.trans (et (bnd_of hr27) (et (bnd_of hr42) (et (bnd_of hr55) (et (bnd_of hr70) (et (bnd_of hr86) (et (bnd_of hr101) (et (bnd_of hr117) (et (bnd_of hr135) (et (ip h146) (et (ip h147) (et (ip h148) (et (bnd_of (getD_of hx150)) (et (ip h151) (iN h152))))))))))))))
 exact ⟨rfl, H186⟩
 refine Sz (dF h151) (Sz (dF h151) (fw (.bool false) (Yl.pickF rfl (dF h151) rfl) (Mz rfl (Sz rfl (Sz rfl (fw (.bool false) (Yl.pickF rfl rfl rfl) (Mz rfl (Sz rfl (Sz rfl (fw (.bool false) (Yl.pickF rfl rfl rfl) (Mz rfl (Sz rfl (Sz rfl (Sz rfl (fw (.bool false) (Yl.pickF rfl rfl rfl) (Mz rfl (Sz rfl (Sz rfl (Sz rfl (Sz rfl (Sz rfl (Sz rfl (fw (.bool false) (Yl.pickF rfl rfl rfl) (Mz rfl (Sz rfl (Sz rfl (Sz rfl (Sz rfl (Sz rfl (Sz rfl (Sz rfl (Sz rfl (fw (.bool false) (Yl.pickF rfl rfl rfl) (Mz rfl (Sz rfl (Sz rfl (Sz rfl (Sz rfl (Sz rfl ?_)))))))))))))))))))))))))))))))))))))))
 refine Sz rfl (Sz rfl (fw (.bool false) (Yl.pickF rfl rfl rfl) (Mz rfl (Sz rfl (Sz rfl (Sz rfl (Sz rfl (Sz rfl (Sz rfl (fw (.bool false) (Yl.pickF rfl rfl rfl) (Mz rfl (Sz rfl (Sz rfl (Sz rfl (Sz rfl (Sz rfl (Sz rfl (Sz rfl (fw (.bool false) (Yl.pickF rfl rfl rfl) (An rfl (rt (rs ?_))))))))))))))))))))))
 have H187 := H145.pk []
 obtain rfl : _ = false := hr.symm.trans (et (bnd_of hr27) (et (bnd_of hr42) (et (bnd_of hr55) (et (bnd_of hr70) (et (bnd_of hr86) (et (bnd_of hr101) (et (bnd_of hr117) (et (bnd_of hr135) (et (ip h146) (et (ip h147) (et (ip h148) (et (bnd_of (getD_of hx150)) (iN h151)))))))))))))
 exact ⟨rfl, H187⟩
 refine Sz (dF h148) (Sz (dF h148) (Sz (dF h148) (Sz (dF h148) (Sz (dF h148) (fw (.bool false) (Yl.pickF rfl (dF h148) rfl) (Mz rfl (Sz rfl (Sz rfl (fw (.bool false) (Yl.pickF rfl rfl rfl) (Mz rfl (Sz rfl (Sz rfl (fw (.bool false) (Yl.pickF rfl rfl rfl) (Mz rfl (Sz rfl (Sz rfl (fw (.bool false) (Yl.pickF rfl rfl rfl) (Mz rfl (Sz rfl (Sz rfl (Sz rfl (fw (.bool false) (Yl.pickF rfl rfl rfl) (Mz rfl (Sz rfl (Sz rfl (Sz rfl (Sz rfl (Sz rfl (Sz rfl (fw (.bool false) (Yl.pickF rfl rfl rfl) (Mz rfl (Sz rfl (Sz rfl (Sz rfl (Sz rfl (Sz rfl (Sz rfl (Sz rfl (Sz rfl ?_)))))))))))))))))))))))))))))))))))))))
 refine fw (.bool false) (Yl.pickF rfl rfl rfl) (Mz rfl (Sz rfl (Sz rfl (Sz rfl (Sz rfl (Sz rfl (Sz rfl (Sz rfl (fw (.bool false) (Yl.pickF rfl rfl rfl) (Mz rfl (Sz rfl (Sz rfl (Sz rfl (Sz rfl (Sz rfl (Sz rfl (fw (.bool false) (Yl.pickF rfl rfl rfl) (Mz rfl (Sz rfl (Sz rfl (Sz rfl (Sz rfl (Sz rfl (Sz rfl (Sz rfl (fw (.bool false) (Yl.pickF rfl rfl rfl) (An rfl (rt (rs ?_)))))))))))))))))))))))))))))
 have H188 := H145.pk []
 obtain rfl : _ = false := hr.symm.trans (et (bnd_of hr27) (et (bnd_of hr42) (et (bnd_of hr55) (et (bnd_of hr70) (et (bnd_of hr86) (et (bnd_of hr101) (et (bnd_of hr117) (et (bnd_of hr135) (et (ip h146) (et (ip h147) (iN h148)))))))))))
 exact ⟨rfl, H188⟩
 refine Sz (dF h147) (Sz (dF h147) (Sz (dF h147) (fw (.bool false) (Yl.pickF rfl (dF h147) rfl) (Mz rfl (Sz rfl (Sz rfl (Sz rfl (Sz rfl (Sz rfl (fw (.bool false) (Yl.pickF rfl rfl rfl) (Mz rfl (Sz rfl (Sz rfl (fw (.bool false) (Yl.pickF rfl rfl rfl) (Mz rfl (Sz rfl (Sz rfl (fw (.bool false) (Yl.pickF rfl rfl rfl) (Mz rfl (Sz rfl (Sz rfl (fw (.bool false) (Yl.pickF rfl rfl rfl) (Mz rfl (Sz rfl (Sz rfl (Sz rfl (fw (.bool false) (Yl.pickF rfl rfl rfl) (Mz rfl (Sz rfl (Sz rfl (Sz rfl (Sz rfl (Sz rfl (Sz rfl (fw (.bool false) (Yl.pickF rfl rfl rfl) (Mz rfl (Sz rfl (Sz rfl (Sz rfl ?_)))))))))))))))))))))))))))))))))))))))
 refine Sz rfl (Sz rfl (Sz rfl (Sz rfl (Sz rfl (fw (.bool false) (Yl.pickF rfl rfl rfl) (Mz rfl (Sz rfl (Sz rfl (Sz rfl (Sz rfl (Sz rfl (Sz rfl (Sz rfl (fw (.bool false) (Yl.pickF rfl rfl rfl) (Mz rfl (Sz rfl (Sz rfl (Sz rfl (Sz rfl (Sz rfl (Sz rfl (fw (.bool false) (Yl.pickF rfl rfl rfl) (Mz rfl (Sz rfl (Sz rfl (Sz rfl (Sz rfl (Sz rfl (Sz rfl (Sz rfl (fw (.bool false) (Yl.pickF rfl rfl rfl) (An rfl (rt (rs ?_))))))))))))))))))))))))))))))))))
 have H189 := H145.pk []
 obtain rfl : _ = false := hr.symm.trans (et (bnd_of hr27) (et (bnd_of hr42) (et (bnd_of hr55) (et (bnd_of hr70) (et (bnd_of hr86) (et (bnd_of hr101) (et (bnd_of hr117) (et (bnd_of hr135) (et (ip h146) (iN h147))))))))))
 exact ⟨rfl, H189⟩
 refine Sz (dF h146) (Sz (dF h146) (fw (.bool false) (Yl.pickF rfl (dF h146) rfl) (Mz rfl (Sz rfl (Sz rfl (Sz rfl (fw (.bool false) (Yl.pickF rfl rfl rfl) (Mz rfl (Sz rfl (Sz rfl (Sz rfl (Sz rfl (Sz rfl (fw (.bool false) (Yl.pickF rfl rfl rfl) (Mz rfl (Sz rfl (Sz rfl (fw (.bool false) (Yl.pickF rfl rfl rfl) (Mz rfl (Sz rfl (Sz rfl (fw (.bool false) (Yl.pickF rfl rfl rfl) (Mz rfl (Sz rfl (Sz rfl (fw (.bool false) (Yl.pickF rfl rfl rfl) (Mz rfl (Sz rfl (Sz rfl (Sz rfl (fw (.bool false) (Yl.pickF rfl rfl rfl) (Mz rfl (Sz rfl (Sz rfl (Sz rfl (Sz rfl (Sz rfl (Sz rfl (fw (.bool false) (Yl.pickF rfl rfl rfl) ?_)))))))))))))))))))))))))))))))))))))))
 refine Mz rfl (Sz rfl (Sz rfl (Sz rfl (Sz rfl (Sz rfl (Sz rfl (Sz rfl (Sz rfl (fw (.bool false) (Yl.pickF rfl rfl rfl) (Mz rfl (Sz rfl (Sz rfl (Sz rfl (Sz rfl (Sz rfl (Sz rfl (Sz rfl (fw (.bool false) (Yl.pickF rfl rfl rfl) (Mz rfl (Sz rfl (Sz rfl (Sz rfl (Sz rfl (Sz rfl (Sz rfl (fw (.bool false) (Yl.pickF rfl rfl rfl) (Mz rfl (Sz rfl (Sz rfl (Sz rfl (Sz rfl (Sz rfl (Sz rfl (Sz rfl (fw (.bool false) (Yl.pickF rfl rfl rfl) (An rfl (rt ?_)))))))))))))))))))))))))))))))))))))
 refine rs ?_
 have H190 := H145.pk []
 obtain rfl : _ = false := hr.symm.trans (et (bnd_of hr27) (et (bnd_of hr42) (et (bnd_of hr55) (et (bnd_of hr70) (et (bnd_of hr86) (et (bnd_of hr101) (et (bnd_of hr117) (et (bnd_of hr135) (iN h146)))))))))
 exact ⟨rfl, H190⟩
end Go.Proofs.Ytcjjblkgbfaapaa
