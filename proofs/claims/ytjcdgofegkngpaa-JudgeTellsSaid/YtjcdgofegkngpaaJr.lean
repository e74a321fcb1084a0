/-
 judge: the document's answer.
-/
import Derived.Test.YtjcdgofegkngpaaJo
namespace Go.Proofs.Ytjcdgofegkngpaa
open Go.RowKit
set_option linter.unusedVariables false
set_option linter.unusedSectionVars false
set_option linter.unusedSimpArgs false
def r23_before_L0 (l0 : List SeenT) (p1 : Int) (p2 : Int) : Nat → Nat → Unit ⊕ Int
  | 0, k21 => Sum.inl default
  | q22 + 1, k21 => if ((k21 : Nat) : Int) < p1 then bnd (List.getD l0 k21 default) fun yx39 => if yx39.xKind = p2 then bnd (List.getD l0 (Int.toNat p1) default) fun yx46 => if yx39.xClient = yx46.xClient then if ((yx39.xReq : Nat) : Int) = ((yx46.xReq : Nat) : Int) then Sum.inr ((k21 : Nat) : Int) else r23_before_L0 l0 p1 p2 q22 (k21 + 1) else r23_before_L0 l0 p1 p2 q22 (k21 + 1) else r23_before_L0 l0 p1 p2 q22 (k21 + 1) else Sum.inl ()
def r23_before (l0 : List SeenT) (p1 : Int) (p2 : Int) : Int :=
 lp (r23_before_L0 l0 p1 p2 ((Int.toNat (p1 - ((0 : Nat) : Int))) + 1) 0) fun _ => (-1)
set_option maxRecDepth 100000 in
theorem r23_before_ok (w : World) (D : Nat → Prop) (A0 : Option Addr) (n0 c0 : Nat) (d0 : List SeenD) (l0 : List SeenT) (p1 : Int) (p2 : Int) (r0 : Int) (H : Own w D w []) (hd0 : List.map SeenD.abs d0 = l0) (hx0 : Ro w D fun w' => Rds w' 6 A0 n0 (List.flatMap SeenD.cells d0)) (hm0 : ∀ x ∈ d0, Ro w D (fun w' => Rds w' 6 x.xOps.A x.xOps.ls.length (List.flatMap OpD.cells x.xOps.ls)) ∧ (x.xOps.ls.length ≤ x.xOps.c ∧ x.xOps.ls.length ≤ 9223372036854775807) ∧ Ro w D (fun w' => Rds w' 3 x.xResults.A x.xResults.ls.length (List.flatMap ResultD.cells x.xResults.ls)) ∧ (x.xResults.ls.length ≤ x.xResults.c ∧ x.xResults.ls.length ≤ 9223372036854775807) ∧ (∀ y1 ∈ x.xResults.ls, Ro w D (fun w' => Rds w' 2 y1.xPairs.A y1.xPairs.ls.length (List.flatMap PairD.cells y1.xPairs.ls)) ∧ (y1.xPairs.ls.length ≤ y1.xPairs.c ∧ y1.xPairs.ls.length ≤ 9223372036854775807))) (hn0 : n0 = l0.length) (hl0 : l0.length ≤ 9223372036854775807) (hh0 : 0 ≤ p1 ∧ p1 < ((l0.length : Nat) : Int)) (hr : r23_before l0 p1 p2 = r0) :
    Calls Try.prog 28 #[.slice A0 n0 c0, .int .i64 p1, .int .i64 p2] w (Ret fun v w' => v = .int .i64 r0 ∧ Own w D w' [] ∧ (-1 ≤ r0 ∧ r0 < p1)) := by
 subst hn0
 have hdl0 := abs_len hd0
 refine Calls.body (args := [.slice A0 l0.length c0, .int .i64 p1, .int .i64 p2]) Try.func28 rfl rfl rfl ?_
 show Wp _ _ _ [(0, .slice A0 l0.length c0), (1, .int .i64 p1), (2, .int .i64 p2)] _ _
 refine sr (An rfl (Wp.seq (sr (An rfl (bo ?_)))))
 have H24 : Own w D w [] := H.pk []
 obtain ⟨I28, hI29⟩ : ∃ q : (Nat × Nat) → World → Prop, q = fun (i : Nat × Nat) w' => Own w D w' [] ∧ (((i.1 : Nat) : Int) ≤ p1 ∧ Int.toNat (p1 - ((i.1 : Nat) : Int)) < i.2 ∧ r23_before_L0 l0 p1 p2 ((Int.toNat (p1 - ((0 : Nat) : Int))) + 1) 0 = r23_before_L0 l0 p1 p2 i.2 i.1) := ⟨_, rfl⟩
 have dm30 : ∀ {k21 : Nat} {f23 : Nat} {w' : World}, I28 (k21, f23) w' ↔ Own w D w' [] ∧ ((k21 : Nat) : Int) ≤ p1 ∧ Int.toNat (p1 - ((k21 : Nat) : Int)) < f23 ∧ r23_before_L0 l0 p1 p2 ((Int.toNat (p1 - ((0 : Nat) : Int))) + 1) 0 = r23_before_L0 l0 p1 p2 f23 k21 := by intros; subst hI29; exact Iff.rfl
 refine Wp.loop (fun i : Nat × Nat => [(6, .int .i64 0), (7, .int .i64 ((i.1 : Nat) : Int)), (0, .slice A0 l0.length c0), (1, .int .i64 p1), (2, .int .i64 p2)]) I28 (fun i => i.2) (0, (Int.toNat (p1 - ((0 : Nat) : Int))) + 1) ⟨rfl, rfl, rfl, rfl, rfl, trivial⟩ (dm30.2 ⟨H24, by omega, by omega, rfl⟩) ?_
 rintro ⟨k21, f23⟩ w25 hf27
 show Wp _ _ _ [(6, .int .i64 0), (7, .int .i64 ((k21 : Nat) : Int)), (0, .slice A0 l0.length c0), (1, .int .i64 p1), (2, .int .i64 p2)] _ _
 obtain ⟨H26, hi32, hi33, hq31⟩ := dm30.1 hf27
 obtain ⟨f34, hf35⟩ : ∃ q, f23 = q + 1 := ⟨f23 - 1, by omega⟩
 subst hf35
 refine Wp.seq (sr (Mz rfl (Mz rfl (Kz (.bool (decide (((k21 : Nat) : Int) < p1))) (nt ?_)))))
 by_cases h36 : ((k21 : Nat) : Int) < p1
 refine jT (dT h36) (sk (Wp.seq (bo (Wp.seq ?_))))
 have H38 := H26.drew
 refine Wp.drawnX [] (fun W => ∃ L', Own w D W ([] ++ L')) (by kernel_rfl) (by kernel_rfl) (NoP.then (NoP.block (NoP.then (NoP.then (NoP.block (NoP.then NoP.base)))))) ⟨_, H38⟩ ?_
 revert H38
 generalize World.drew w25 = w37
 intro H38
 refine GX.take (v := .slice A0 l0.length c0) (rs := []) 0 rfl (by kernel_rfl) (fun _ _ => Yl.move rfl) (GX.take (v := .int .i64 ((k21 : Nat) : Int)) (rs := []) 1 rfl (by kernel_rfl) (fun _ _ => Yl.move rfl) ?_)
 obtain ⟨x39, hx40⟩ := at_of (ls := d0) (i := k21) (by first | omega | (simp; done) | (simp; omega))
 have hX41 := abs_at hd0 hx40
 have hb42 := (hm0 _ (List.mem_of_getElem? hx40)).2.1
 have hb43 := (hm0 _ (List.mem_of_getElem? hx40)).2.2.2.1
 have hl44 : List.length (List.map ResultD.abs x39.xResults.ls) = x39.xResults.ls.length := List.length_map ..
 refine GX.take (v := .pointer (some ⟨ab A0, ao A0 + k21 * 6, none⟩)) (rs := []) 2 rfl (by kernel_rfl) (fun _ ⟨_, H9⟩ => Yl.indexAddr (El22) rfl rfl ((H9.ro hx0).addr (i := k21) (by omega)) (by omega)) (GX.take (v := .pointer (some ⟨ab A0, ao A0 + k21 * 6, none⟩)) (rs := []) 3 rfl (by kernel_rfl) (fun _ _ => yk) (GX.take (v := .int .i64 x39.xKind) (rs := []) 4 rfl (by kernel_rfl) (fun _ ⟨_, H9⟩ => Yl.load rfl (Lds.one Try.isAgg3 (((H9.ro hx0).elem SeenD.len hx40 (by decide)).at_ (k := 0) rfl))) (GX.take (v := .int .i64 p2) (rs := []) 5 rfl (by kernel_rfl) (fun _ _ => Yl.move rfl) (GX.take (v := .bool (decide (x39.xKind = p2))) (rs := []) 6 rfl (by kernel_rfl) (fun _ _ => yk) (GX.take (v := .bool (decide (x39.xKind = p2))) (rs := []) 7 rfl (by kernel_rfl) (fun _ _ => Yl.move rfl) ?_)))))
 by_cases h45 : x39.xKind = p2
 refine GX.takeG (v := .slice A0 l0.length c0) (rs := []) 8 rfl rfl rfl (dT h45) (by kernel_rfl) (fun _ _ => Yl.move rfl) (GX.takeG (v := .int .i64 ((k21 : Nat) : Int)) (rs := []) 9 rfl rfl rfl (dT h45) (by kernel_rfl) (fun _ _ => Yl.move rfl) (GX.takeG (v := .pointer (some ⟨ab A0, ao A0 + k21 * 6, none⟩)) (rs := []) 10 rfl rfl rfl (dT h45) (by kernel_rfl) (fun _ ⟨_, H9⟩ => Yl.indexAddr (El22) rfl rfl ((H9.ro hx0).addr (i := k21) (by omega)) (by omega)) (GX.takeG (v := .pointer (some ⟨ab A0, ao A0 + k21 * 6 + 1, none⟩)) (rs := []) 11 rfl rfl rfl (dT h45) (by kernel_rfl) (fun _ _ => yk) (GX.takeG (v := .int .i64 x39.xClient) (rs := []) 12 rfl rfl rfl (dT h45) (by kernel_rfl) (fun _ ⟨_, H9⟩ => Yl.load rfl (Lds.one Try.isAgg3 (((H9.ro hx0).elem SeenD.len hx40 (by decide)).at_ (k := 1) rfl))) (GX.takeG (v := .slice A0 l0.length c0) (rs := []) 13 rfl rfl rfl (dT h45) (by kernel_rfl) (fun _ _ => Yl.move rfl) (GX.takeG (v := .int .i64 ((Int.toNat p1 : Nat) : Int)) (rs := []) 14 rfl rfl rfl (dT h45) (by kernel_rfl) (fun _ _ => Yl.int (e := p1) (Yl.move rfl) (by omega)) ?_))))))
 obtain ⟨x46, hx47⟩ := at_of (ls := d0) (i := Int.toNat p1) (by first | omega | (simp; done) | (simp; omega))
 have hX48 := abs_at hd0 hx47
 have hb49 := (hm0 _ (List.mem_of_getElem? hx47)).2.1
 have hb50 := (hm0 _ (List.mem_of_getElem? hx47)).2.2.2.1
 have hl51 : List.length (List.map ResultD.abs x46.xResults.ls) = x46.xResults.ls.length := List.length_map ..
 refine GX.takeG (v := .pointer (some ⟨ab A0, ao A0 + (Int.toNat p1) * 6, none⟩)) (rs := []) 15 rfl rfl rfl (dT h45) (by kernel_rfl) (fun _ ⟨_, H9⟩ => Yl.indexAddr (El22) rfl rfl ((H9.ro hx0).addr (i := Int.toNat p1) (by omega)) (by omega)) (GX.takeG (v := .pointer (some ⟨ab A0, ao A0 + (Int.toNat p1) * 6 + 1, none⟩)) (rs := []) 16 rfl rfl rfl (dT h45) (by kernel_rfl) (fun _ _ => yk) (GX.takeG (v := .int .i64 x46.xClient) (rs := []) 17 rfl rfl rfl (dT h45) (by kernel_rfl) (fun _ ⟨_, H9⟩ => Yl.load rfl (Lds.one Try.isAgg3 (((H9.ro hx0).elem SeenD.len hx47 (by decide)).at_ (k := 1) rfl))) (GX.takeG (v := .bool (decide (x39.xClient = x46.xClient))) (rs := []) 18 rfl rfl rfl (dT h45) (by kernel_rfl) (fun _ _ => yk) (GX.take (v := .bool (decide (x39.xClient = x46.xClient))) (rs := []) 19 rfl (by kernel_rfl) (fun _ _ => Yl.pickT rfl (dT h45) rfl) (GX.take (v := .bool (decide (x39.xClient = x46.xClient))) (rs := []) 20 rfl (by kernel_rfl) (fun _ _ => Yl.move rfl) ?_)))))
 by_cases h52 : x39.xClient = x46.xClient
 refine GX.takeG (v := .slice A0 l0.length c0) (rs := []) 21 rfl rfl rfl (dT h52) (by kernel_rfl) (fun _ _ => Yl.move rfl) (GX.takeG (v := .int .i64 ((k21 : Nat) : Int)) (rs := []) 22 rfl rfl rfl (dT h52) (by kernel_rfl) (fun _ _ => Yl.move rfl) (GX.takeG (v := .pointer (some ⟨ab A0, ao A0 + k21 * 6, none⟩)) (rs := []) 23 rfl rfl rfl (dT h52) (by kernel_rfl) (fun _ ⟨_, H9⟩ => Yl.indexAddr (El22) rfl rfl ((H9.ro hx0).addr (i := k21) (by omega)) (by omega)) (GX.takeG (v := .pointer (some ⟨ab A0, ao A0 + k21 * 6 + 2, none⟩)) (rs := []) 24 rfl rfl rfl (dT h52) (by kernel_rfl) (fun _ _ => yk) (GX.takeG (v := .int .u64 ((x39.xReq : Nat) : Int)) (rs := []) 25 rfl rfl rfl (dT h52) (by kernel_rfl) (fun _ ⟨_, H9⟩ => Yl.load rfl (Lds.one Try.isAgg35 (((H9.ro hx0).elem SeenD.len hx40 (by decide)).at_ (k := 2) rfl))) (GX.takeG (v := .slice A0 l0.length c0) (rs := []) 26 rfl rfl rfl (dT h52) (by kernel_rfl) (fun _ _ => Yl.move rfl) (GX.takeG (v := .int .i64 ((Int.toNat p1 : Nat) : Int)) (rs := []) 27 rfl rfl rfl (dT h52) (by kernel_rfl) (fun _ _ => Yl.int (e := p1) (Yl.move rfl) (by omega)) (GX.takeG (v := .pointer (some ⟨ab A0, ao A0 + (Int.toNat p1) * 6, none⟩)) (rs := []) 28 rfl rfl rfl (dT h52) (by kernel_rfl) (fun _ ⟨_, H9⟩ => Yl.indexAddr (El22) rfl rfl ((H9.ro hx0).addr (i := Int.toNat p1) (by omega)) (by omega)) (GX.takeG (v := .pointer (some ⟨ab A0, ao A0 + (Int.toNat p1) * 6 + 2, none⟩)) (rs := []) 29 rfl rfl rfl (dT h52) (by kernel_rfl) (fun _ _ => yk) (GX.takeG (v := .int .u64 ((x46.xReq : Nat) : Int)) (rs := []) 30 rfl rfl rfl (dT h52) (by kernel_rfl) (fun _ ⟨_, H9⟩ => Yl.load rfl (Lds.one Try.isAgg35 (((H9.ro hx0).elem SeenD.len hx47 (by decide)).at_ (k := 2) rfl))) (GX.takeG (v := .bool (decide (((x39.xReq : Nat) : Int) = ((x46.xReq : Nat) : Int)))) (rs := []) 31 rfl rfl rfl (dT h52) (by kernel_rfl) (fun _ _ => yk) (GX.take (v := .bool (decide (((x39.xReq : Nat) : Int) = ((x46.xReq : Nat) : Int)))) (rs := []) 32 rfl (by kernel_rfl) (fun _ _ => Yl.pickT rfl (dT h52) rfl) (GX.done (by kernel_rfl) (Fin.then ?_)))))))))))))
 by_cases h53 : ((x39.xReq : Nat) : Int) = ((x46.xReq : Nat) : Int)
 refine jT (dT h53) (sr (Mz rfl (An rfl (rt (bR (tR (tR (bR (tR (rs ?_))))))))))
 have H54 := H38.pk []
 obtain rfl : _ = ((k21 : Nat) : Int) := hr.symm.trans (lp_r (et (hq31) (et (ip h36) (et (bnd_of (getD_of hX41)) (et (ip h45) (et (bnd_of (getD_of hX48)) (et (ip h52) (ip h53))))))))
 exact ⟨rfl, H54, (by omega)⟩
 refine jF (dF h53) (Wp.skip (bN (Fin.then (Wp.region (Mz rfl (fw (.int .i64 ((k21 + 1 : Nat) : Int)) (Yl.int (e := IntKind.i64.wrap (((k21 : Nat) : Int) + 1)) yk (by rw [IntWalk.i64_in _ (by omega)]; omega)) (Az rfl (WL.nil ?_))))))))
 have H55 := H38.pk []
 exact Fin.round (k21 + 1, f34) ⟨rfl, rfl, rfl, rfl, rfl, trivial⟩ (dm30.2 ⟨H55, by omega, by omega, et (hq31) (et (ip h36) (et (bnd_of (getD_of hX41)) (et (ip h45) (et (bnd_of (getD_of hX48)) (et (ip h52) (iN h53))))))⟩) (by show f34 < f34 + 1; omega)
 refine GX.skipG (rs := []) 21 rfl rfl rfl (dF h52) (by kernel_rfl) (GX.skipG (rs := []) 22 rfl rfl rfl (dF h52) (by kernel_rfl) (GX.skipG (rs := []) 23 rfl rfl rfl (dF h52) (by kernel_rfl) (GX.skipG (rs := []) 24 rfl rfl rfl (dF h52) (by kernel_rfl) (GX.skipG (rs := []) 25 rfl rfl rfl (dF h52) (by kernel_rfl) (GX.skipG (rs := []) 26 rfl rfl rfl (dF h52) (by kernel_rfl) (GX.skipG (rs := []) 27 rfl rfl rfl (dF h52) (by kernel_rfl) (GX.skipG (rs := []) 28 rfl rfl rfl (dF h52) (by kernel_rfl) (GX.skipG (rs := []) 29 rfl rfl rfl (dF h52) (by kernel_rfl) (GX.skipG (rs := []) 30 rfl rfl rfl (dF h52) (by kernel_rfl) (GX.skipG (rs := []) 31 rfl rfl rfl (dF h52) (by kernel_rfl) (GX.take (v := .bool false) (rs := []) 32 rfl (by kernel_rfl) (fun _ _ => Yl.pickF rfl (dF h52) rfl) (GX.done (by kernel_rfl) (Fin.then (jf (Wp.skip (bN (Fin.then (Wp.region (Mz rfl (fw (.int .i64 ((k21 + 1 : Nat) : Int)) (Yl.int (e := IntKind.i64.wrap (((k21 : Nat) : Int) + 1)) yk (by rw [IntWalk.i64_in _ (by omega)]; omega)) (Az rfl (WL.nil ?_))))))))))))))))))))))
 have H56 := H38.pk []
 exact Fin.round (k21 + 1, f34) ⟨rfl, rfl, rfl, rfl, rfl, trivial⟩ (dm30.2 ⟨H56, by omega, by omega, et (hq31) (et (ip h36) (et (bnd_of (getD_of hX41)) (et (ip h45) (et (bnd_of (getD_of hX48)) (iN h52)))))⟩) (by show f34 < f34 + 1; omega)
 refine GX.skipG (rs := []) 8 rfl rfl rfl (dF h45) (by kernel_rfl) (GX.skipG (rs := []) 9 rfl rfl rfl (dF h45) (by kernel_rfl) (GX.skipG (rs := []) 10 rfl rfl rfl (dF h45) (by kernel_rfl) (GX.skipG (rs := []) 11 rfl rfl rfl (dF h45) (by kernel_rfl) (GX.skipG (rs := []) 12 rfl rfl rfl (dF h45) (by kernel_rfl) (GX.skipG (rs := []) 13 rfl rfl rfl (dF h45) (by kernel_rfl) (GX.skipG (rs := []) 14 rfl rfl rfl (dF h45) (by kernel_rfl) (GX.skipG (rs := []) 15 rfl rfl rfl (dF h45) (by kernel_rfl) (GX.skipG (rs := []) 16 rfl rfl rfl (dF h45) (by kernel_rfl) (GX.skipG (rs := []) 17 rfl rfl rfl (dF h45) (by kernel_rfl) (GX.skipG (rs := []) 18 rfl rfl rfl (dF h45) (by kernel_rfl) (GX.take (v := .bool false) (rs := []) 19 rfl (by kernel_rfl) (fun _ _ => Yl.pickF rfl (dF h45) rfl) (GX.take (v := .bool false) (rs := []) 20 rfl (by kernel_rfl) (fun _ _ => Yl.move rfl) (GX.skipG (rs := []) 21 rfl rfl rfl rfl (by kernel_rfl) (GX.skipG (rs := []) 22 rfl rfl rfl rfl (by kernel_rfl) (GX.skipG (rs := []) 23 rfl rfl rfl rfl (by kernel_rfl) (GX.skipG (rs := []) 24 rfl rfl rfl rfl (by kernel_rfl) (GX.skipG (rs := []) 25 rfl rfl rfl rfl (by kernel_rfl) (GX.skipG (rs := []) 26 rfl rfl rfl rfl (by kernel_rfl) (GX.skipG (rs := []) 27 rfl rfl rfl rfl (by kernel_rfl) (GX.skipG (rs := []) 28 rfl rfl rfl rfl (by kernel_rfl) (GX.skipG (rs := []) 29 rfl rfl rfl rfl (by kernel_rfl) (GX.skipG (rs := []) 30 rfl rfl rfl rfl (by kernel_rfl) (GX.skipG (rs := []) 31 rfl rfl rfl rfl (by kernel_rfl) (GX.take (v := .bool false) (rs := []) 32 rfl (by kernel_rfl) (fun _ _ => Yl.pickF rfl rfl rfl) (GX.done (by kernel_rfl) (Fin.then (jf (Wp.skip (bN (Fin.then (Wp.region (Mz rfl (fw (.int .i64 ((k21 + 1 : Nat) : Int)) (Yl.int (e := IntKind.i64.wrap (((k21 : Nat) : Int) + 1)) yk (by rw [IntWalk.i64_in _ (by omega)]; omega)) (Az rfl (WL.nil ?_)))))))))))))))))))))))))))))))))))
 have H57 := H38.pk []
 exact Fin.round (k21 + 1, f34) ⟨rfl, rfl, rfl, rfl, rfl, trivial⟩ (dm30.2 ⟨H57, by omega, by omega, et (hq31) (et (ip h36) (et (bnd_of (getD_of hX41)) (iN h45)))⟩) (by show f34 < f34 + 1; omega)
 refine jF (dF h36) (Wp.exit (Fin.thenX ?_))
 have hL58 : r23_before_L0 l0 p1 p2 ((Int.toNat (p1 - ((0 : Nat) : Int))) + 1) 0 = Sum.inl () := et (hq31) (iN h36)
 refine Fin.thenX (Fin.blockX (Fin.then (sr (An rfl (rt (rs ?_))))))
 have H59 := H26.pk []
 obtain rfl : _ = (-1) := hr.symm.trans (lp_l hL58)
 exact ⟨rfl, H59, (by omega)⟩
def RpOk (l : List SeenT) : Prop := ∀ (i : Nat) (x : SeenT), l[i]? = some x → x.xKind = 2 → 0 ≤ r23_before l ((i : Nat) : Int) 1 ∧ ∀ y, l[Int.toNat (r23_before l ((i : Nat) : Int) 1)]? = some y → y.xOps.ls.length ≤ 24
def r23_replay_L0 (l0 : List SeenT) : List SeenT → List PairD → List ResultT → Nat → (List PairD) × (List ResultT)
  | [], l26, l29, k31 => (l26, l29)
  | x46 :: q32, l26, l29, k31 => if x46.xKind = 2 then bnd (r23_before l0 ((k31 : Nat) : Int) 1) fun yr64 => bnd (List.getD l0 (Int.toNat yr64) default) fun yx71 => bnd (r04_Apply l26 yx71.xOps.ls) fun yr83 => r23_replay_L0 l0 q32 yr83.1 yr83.2.1 (k31 + 1) else r23_replay_L0 l0 q32 l26 l29 (k31 + 1)
def r23_replay (l0 : List SeenT) : (List PairD) × (List ResultT) :=
 bnd (r23_replay_L0 l0 l0 ([]) ([]) 0) fun sLrL => (sLrL.1, sLrL.2)
set_option maxRecDepth 100000 in
set_option maxHeartbeats 2000000 in
theorem r23_replay_ok (w : World) (D : Nat → Prop) (A0 : Option Addr) (n0 c0 : Nat) (d0 : List SeenD) (l0 : List SeenT) (r0 : List PairD) (r1 : List ResultT) (H : Own w D w []) (hd0 : List.map SeenD.abs d0 = l0) (hx0 : Ro w D fun w' => Rds w' 6 A0 n0 (List.flatMap SeenD.cells d0)) (hm0 : ∀ x ∈ d0, Ro w D (fun w' => Rds w' 6 x.xOps.A x.xOps.ls.length (List.flatMap OpD.cells x.xOps.ls)) ∧ (x.xOps.ls.length ≤ x.xOps.c ∧ x.xOps.ls.length ≤ 9223372036854775807) ∧ Ro w D (fun w' => Rds w' 3 x.xResults.A x.xResults.ls.length (List.flatMap ResultD.cells x.xResults.ls)) ∧ (x.xResults.ls.length ≤ x.xResults.c ∧ x.xResults.ls.length ≤ 9223372036854775807) ∧ (∀ y1 ∈ x.xResults.ls, Ro w D (fun w' => Rds w' 2 y1.xPairs.A y1.xPairs.ls.length (List.flatMap PairD.cells y1.xPairs.ls)) ∧ (y1.xPairs.ls.length ≤ y1.xPairs.c ∧ y1.xPairs.ls.length ≤ 9223372036854775807))) (hn0 : n0 = l0.length) (hl0 : l0.length ≤ 9223372036854775807) (hh0 : RpOk l0) (hh1 : l0.length ≤ 1000000000) (hr : r23_replay l0 = (r0, r1)) :
    Calls Try.prog 21 #[.slice A0 n0 c0] w (Ret fun v w' => ∃ (B0 : Option Addr) (b0 : Nat) (B1 : Option Addr) (b1 : Nat) (e1 : List ResultD), v = .tuple #[.slice B0 r0.length b0, .slice B1 r1.length b1] ∧ Own w D w' [row B0 r0.length b0 (List.flatMap PairD.cells r0) 32 2, row B1 r1.length b1 (List.flatMap ResultD.cells e1) 84 3, sepL (List.flatMap ResultD.own e1)] ∧ (List.map ResultD.abs e1 = r1)) := by
 subst hn0
 have hdl0 := abs_len hd0
 refine Calls.body (args := [.slice A0 l0.length c0]) Try.func21 rfl rfl rfl ?_
 show Wp _ _ _ [(0, .slice A0 l0.length c0)] _ _
 refine sr (Az rfl (Ar rfl (Ar rfl (An rfl (Wp.seq (sr (Mz rfl (Kz (.int .i64 ((l0.length : Nat) : Int)) (Mn rfl (bo ?_))))))))))
 have H21 : Own w D w [row none 0 0 (List.flatMap PairD.cells ([])) 32 2] := H.free (row_nil 32 2)
 have H22 : Own w D w [sepL (List.flatMap ResultD.own ([])), row none 0 0 (List.flatMap PairD.cells ([])) 32 2] := H21.sepNil
 have H23 : Own w D w [row none 0 0 (List.flatMap ResultD.cells ([])) 84 3, sepL (List.flatMap ResultD.own ([])), row none 0 0 (List.flatMap PairD.cells ([])) 32 2] := H22.free (row_nil 84 3)
 have H33 := H23.pk [2, 0, 1]
 obtain ⟨I37, hI38⟩ : ∃ q : ((Option Addr) × Nat × (List PairD) × (Option Addr) × Nat × (List ResultD) × (List ResultT) × Nat) → World → Prop, q = fun (i : (Option Addr) × Nat × (List PairD) × (Option Addr) × Nat × (List ResultD) × (List ResultT) × Nat) w' => Own w D w' [row i.1 i.2.2.1.length i.2.1 (List.flatMap PairD.cells i.2.2.1) 32 2, row i.2.2.2.1 i.2.2.2.2.2.2.1.length i.2.2.2.2.1 (List.flatMap ResultD.cells i.2.2.2.2.2.1) 84 3, sepL (List.flatMap ResultD.own i.2.2.2.2.2.1)] ∧ (List.map ResultD.abs i.2.2.2.2.2.1 = i.2.2.2.2.2.2.1 ∧ i.2.2.2.2.2.2.2 ≤ l0.length ∧ ((i.2.2.1.length : Nat) : Int) ≤ 24 * ((i.2.2.2.2.2.2.2 : Nat) : Int) ∧ r23_replay_L0 l0 l0 ([]) ([]) 0 = r23_replay_L0 l0 (List.drop i.2.2.2.2.2.2.2 l0) i.2.2.1 i.2.2.2.2.2.2.1 i.2.2.2.2.2.2.2) := ⟨_, rfl⟩
 have dm39 : ∀ {A24 : Option Addr} {c25 : Nat} {l26 : List PairD} {A27 : Option Addr} {c28 : Nat} {d30 : List ResultD} {l29 : List ResultT} {k31 : Nat} {w' : World}, I37 (A24, c25, l26, A27, c28, d30, l29, k31) w' ↔ Own w D w' [row A24 l26.length c25 (List.flatMap PairD.cells l26) 32 2, row A27 l29.length c28 (List.flatMap ResultD.cells d30) 84 3, sepL (List.flatMap ResultD.own d30)] ∧ List.map ResultD.abs d30 = l29 ∧ k31 ≤ l0.length ∧ ((l26.length : Nat) : Int) ≤ 24 * ((k31 : Nat) : Int) ∧ r23_replay_L0 l0 l0 ([]) ([]) 0 = r23_replay_L0 l0 (List.drop k31 l0) l26 l29 k31 := by intros; subst hI38; exact Iff.rfl
 refine Wp.loop (fun i : (Option Addr) × Nat × (List PairD) × (Option Addr) × Nat × (List ResultD) × (List ResultT) × Nat => [(4, .slice i.1 i.2.2.1.length i.2.1), (5, .slice i.2.2.2.1 i.2.2.2.2.2.2.1.length i.2.2.2.2.1), (14, .int .i64 ((i.2.2.2.2.2.2.2 : Nat) : Int)), (13, .int .i64 ((l0.length : Nat) : Int)), (12, .slice A0 l0.length c0), (3, .slice none 0 0), (2, .slice none 0 0), (0, .slice A0 l0.length c0)]) I37 (fun i => l0.length - i.2.2.2.2.2.2.2) (none, 0, [], none, 0, [], [], 0) ⟨rfl, rfl, rfl, rfl, rfl, rfl, rfl, rfl, trivial⟩ (dm39.2 ⟨H33, (show List.map ResultD.abs ([]) = ([]) ∧ 0 ≤ l0.length ∧ ((0 : Nat) : Int) ≤ 24 * ((0 : Nat) : Int) ∧ r23_replay_L0 l0 l0 ([]) ([]) 0 = r23_replay_L0 l0 (List.drop 0 l0) ([]) ([]) 0 from ⟨by exact rfl, by omega, by omega, rfl⟩)⟩) ?_
 rintro ⟨A24, c25, l26, A27, c28, d30, l29, k31⟩ w34 hf36
 show Wp _ _ _ [(4, .slice A24 l26.length c25), (5, .slice A27 l29.length c28), (14, .int .i64 ((k31 : Nat) : Int)), (13, .int .i64 ((l0.length : Nat) : Int)), (12, .slice A0 l0.length c0), (3, .slice none 0 0), (2, .slice none 0 0), (0, .slice A0 l0.length c0)] _ _
 obtain ⟨H35, hi41, hi42, hi43, hq40⟩ := dm39.1 hf36
 have hl44 := abs_len hi41
 refine sr (Kz (.bool (decide (((k31 : Nat) : Int) < ((l0.length : Nat) : Int)))) (nt (Wp.seq ?_)))
 by_cases h45 : ((k31 : Nat) : Int) < ((l0.length : Nat) : Int)
 obtain ⟨x46, hx47⟩ := rds_at (ls := d0) (i := k31) SeenD.len (by decide) (H35.ro hx0) (by first | omega | (simp; done) | (simp; omega))
 have hX48 := abs_at hd0 hx47
 have hb49 := (hm0 _ (List.mem_of_getElem? hx47)).2.1
 have hb50 := (hm0 _ (List.mem_of_getElem? hx47)).2.2.2.1
 have hl51 : List.length (List.map ResultD.abs x46.xResults.ls) = x46.xResults.ls.length := List.length_map ..
 have hd52 := drop_at hX48
 refine jT (dT h45) (sk (Wp.seq (bo (sr (Mz rfl (fw (.pointer (some ⟨ab A0, ao A0 + k31 * 6, none⟩)) (Yl.indexAddr (El22) rfl rfl ((H35.ro hx0).addr (i := k31) (by omega)) (by omega)) (fw (.agg (SeenD.cells x46).toArray) (Yl.load rfl (Lds.agg (cs := (SeenD.cells x46)) Try.isAgg39 Try.sizeOf39 ((H35.ro hx0).elem SeenD.len hx47 (by decide)))) ?_)))))))
 refine npw [.int .i64 0, .int .i64 0, .int .u64 0, .int .i64 0, .slice none 0 0, .slice none 0 0] 39 H35 ?_
 intro g53 w54 H55
 refine Az rfl ?_
 refine sto (SeenD.cells x46) 0 H55 Try.sizeOf39 ?_
 intro w56 H57
 refine nt (Wp.seq (sr (Kz (.pointer (some ⟨g53, 0, none⟩)) (Lz (.int .i64 x46.xKind) H57 0 Try.isAgg3 (fw (.bool (decide (¬ (x46.xKind = 2)))) (Yl.bool (e := !(decide (x46.xKind = 2))) yk decide_not.symm) (nt ?_))))))
 by_cases h58 : x46.xKind = 2
 refine jF (dF (not_not_intro h58)) (sk (sr (Mz rfl (Mz rfl ?_))))
 obtain ⟨r64, hr65⟩ : ∃ q, r23_before l0 ((k31 : Nat) : Int) 1 = q := ⟨_, rfl⟩
 obtain ⟨D59, HP60, ro61, bk62, rr63⟩ := Own.enter0 H57
 refine cl Try.call28 (r23_before_ok _ _ A0 l0.length c0 d0 l0 ((k31 : Nat) : Int) 1 r64 HP60 hd0 (ro61 _ hx0) (fun x9 h9 => ⟨ro61 _ (hm0 x9 h9).1, (hm0 x9 h9).2.1, ro61 _ (hm0 x9 h9).2.2.1, (hm0 x9 h9).2.2.2.1, (fun y1 k1 => ⟨ro61 _ ((hm0 x9 h9).2.2.2.2 y1 k1).1, ((hm0 x9 h9).2.2.2.2 y1 k1).2⟩)⟩) rfl (by omega) (by omega) hr65) ?_
 rintro _ w66 ⟨rfl, HQ67, hk69⟩
 have H68 := bk62 _ _ HQ67
 replace hk69 : -1 ≤ r64 ∧ r64 < ((k31 : Nat) : Int) := hk69
 have hz70 := hh0 k31 (SeenD.abs x46) hX48 (by first | assumption | (show _ = (2 : Int); omega))
 rw [show r23_before l0 ((k31 : Nat) : Int) 1 = r64 from hr65] at hz70
 obtain ⟨hz70a, hz70b⟩ := hz70
 refine Ar rfl (Mz rfl (Mz rfl (fw (.int .i64 ((Int.toNat r64 : Nat) : Int)) (Yl.int (e := r64) (Yl.move rfl) (by omega)) ?_)))
 obtain ⟨x71, hx72⟩ := rds_at (ls := d0) (i := Int.toNat r64) SeenD.len (by decide) (H68.ro hx0) (by first | omega | (simp; done) | (simp; omega))
 have hX73 := abs_at hd0 hx72
 have hb74 := (hm0 _ (List.mem_of_getElem? hx72)).2.1
 have hb75 := (hm0 _ (List.mem_of_getElem? hx72)).2.2.2.1
 have hl76 : List.length (List.map ResultD.abs x71.xResults.ls) = x71.xResults.ls.length := List.length_map ..
 have hz77 : x71.xOps.ls.length ≤ 24 := hz70b _ hX73
 refine fw (.pointer (some ⟨ab A0, ao A0 + (Int.toNat r64) * 6, none⟩)) (Yl.indexAddr (El22) rfl rfl ((H68.ro hx0).addr (i := Int.toNat r64) (by omega)) (by omega)) (Kz (.pointer (some ⟨ab A0, ao A0 + (Int.toNat r64) * 6 + 4, none⟩)) (fw (.slice x71.xOps.A x71.xOps.ls.length x71.xOps.c) (Yl.load rfl (Lds.one Try.isAgg36 (((H68.ro hx0).elem SeenD.len hx72 (by decide)).at_ (k := 4) rfl))) ?_))
 obtain ⟨⟨r83, r84, r85⟩, hr86⟩ : ∃ q : (List PairD) × (List ResultT) × Int, r04_Apply l26 x71.xOps.ls = q := ⟨_, rfl⟩
 obtain ⟨D78, HP79, ro80, bk81, rr82⟩ := Own.enter0 H68
 refine cl Try.call30 (r04_Apply_ok _ _ A24 l26.length c25 l26 x71.xOps.A x71.xOps.ls.length x71.xOps.c x71.xOps.ls r83 r84 r85 HP79 (rr82 _ 1 _ rfl row_rds) rfl (by omega) (ro80 _ (hm0 _ (List.mem_of_getElem? hx72)).1) rfl (by omega) (by first | omega | (simp only [List.length_cons, List.length_nil]; done) | (simp only [List.length_cons, List.length_nil, List.length_take, List.length_drop]; omega)) hr86) ?_
 rintro _ w87 ⟨A90, c91, A92, c93, d94, rfl, HQ88, hd95, hk96, hk97⟩
 have H89 := bk81 _ _ HQ88
 have hl98 := abs_len hd95
 have hb99 := H89.rowC (i := 0) rfl
 have hb100 := H89.rowC (i := 1) rfl
 replace hk96 : r83.length ≤ l26.length + x71.xOps.ls.length := hk96
 replace hk97 : r84.length ≤ x71.xOps.ls.length := hk97
 refine Mz rfl (Kz (.slice A90 r83.length c91) (Kz (.slice A92 r84.length c93) (Kz (.int .i64 r85) (Az rfl (Az rfl (Ar rfl (Mz rfl (An rfl (Wp.region (Mz rfl (Az rfl (WL.nil (bN (Fin.then (Wp.region (fw (.int .i64 ((k31 + 1 : Nat) : Int)) (Yl.int (e := IntKind.i64.wrap (((k31 : Nat) : Int) + 1)) yk (by rw [IntWalk.i64_in _ (by omega)]; omega)) (Mz rfl (WL.nil ?_))))))))))))))))))
 have H101 := H89.pk [0, 1, 2]
 exact Fin.round (A90, c91, r83, A92, c93, d94, r84, k31 + 1) ⟨rfl, rfl, rfl, rfl, rfl, rfl, rfl, rfl, trivial⟩ (dm39.2 ⟨H101, by exact hd95, by omega, by omega, et (hq40) (et (congrArg (fun q => r23_replay_L0 l0 q l26 l29 k31) hd52) (et (ip h58) (et (bnd_of hr65) (et (bnd_of (getD_of hX73)) (bnd_of hr86)))))⟩) (by show l0.length - (k31 + 1) < l0.length - k31; omega)
 refine jT (dT h58) (Wp.exit (Fin.thenX (Fin.blockX (Fin.then (Wp.region (fw (.int .i64 ((k31 + 1 : Nat) : Int)) (Yl.int (e := IntKind.i64.wrap (((k31 : Nat) : Int) + 1)) yk (by rw [IntWalk.i64_in _ (by omega)]; omega)) (Mz rfl (WL.nil ?_))))))))
 have H102 := H57.pk [1, 2, 3]
 exact Fin.round (A24, c25, l26, A27, c28, d30, l29, k31 + 1) ⟨rfl, rfl, rfl, rfl, rfl, rfl, rfl, rfl, trivial⟩ (dm39.2 ⟨H102, by exact hi41, by omega, by omega, et (hq40) (et (congrArg (fun q => r23_replay_L0 l0 q l26 l29 k31) hd52) (iN h58))⟩) (by show l0.length - (k31 + 1) < l0.length - k31; omega)
 refine jF (dF h45) (Wp.exit (Fin.thenX ?_))
 have hL103 : r23_replay_L0 l0 l0 ([]) ([]) 0 = (l26, l29) := et (hq40) (et (congrArg (fun q => r23_replay_L0 l0 q l26 l29 k31) (drop_end (ls := l0) (i := k31) (by omega))) rfl)
 refine Fin.thenX (Fin.blockX (Fin.then (sr (Mz rfl (Mz rfl (Az rfl (An rfl (rt (Fin.res (res2 rfl rfl rfl) ?_)))))))))
 have H104 := H35.pk [0, 1, 2]
 have e : r23_replay l0 = (l26, l29) := bnd_of hL103
 obtain ⟨rfl, rfl⟩ := pj2 (e.symm.trans hr)
 exact ⟨A24, c25, A27, c28, d30, rfl, H104, hi41⟩
def r23_wrong (l0 : List SeenT) (p1 : Int) : Int :=
 bnd (List.getD l0 (Int.toNat p1) default) fun yx21 => bnd (r23_before l0 p1 1) fun yr37 => bnd (r23_before l0 p1 2) fun yr48 => bnd (r23_before l0 p1 3) fun yr59 => if yx21.xClient ≥ 1 then if yx21.xKind = 1 then if yx21.xClient ≤ 4 then bnd (r04_Check yx21.xOps.ls) fun yr73 => if yr73 = 0 then if yr37 ≥ 0 then 6 else 0 else 1 else 1 else if yx21.xKind = 2 then if yx21.xClient ≤ 4 then if yr48 ≥ 0 then 6 else if yr37 < 0 then 5 else if yr59 ≥ 0 then 4 else 0 else 1 else if yx21.xKind = 3 then if yx21.xClient ≤ 4 then if yx21.xCode = 1 then if yr59 ≥ 0 then 6 else if yr37 < 0 then 5 else if (decide (yx21.xCode = 1)) = (decide (yr48 ≥ 0)) then bnd (r23_replay (List.take (Int.toNat (yr48 + 1)) l0)) fun yr110 => bnd (r04_SameResults yr110.2 yx21.xResults.ls) fun yr132 => if yr132 = true then 0 else 11 else 4 else if yx21.xCode = 2 then if yr59 ≥ 0 then 6 else if yr37 < 0 then 5 else if (decide (yx21.xCode = 1)) = (decide (yr48 ≥ 0)) then if ((yx21.xResults.ls.length : Nat) : Int) > 0 then 11 else 0 else 4 else 1 else 1 else 1 else if yx21.xKind = 1 then 1 else if yx21.xKind = 2 then 1 else if yx21.xKind = 3 then 1 else 1
set_option maxRecDepth 100000 in
set_option maxHeartbeats 4000000 in
theorem r23_wrong_ok (w : World) (D : Nat → Prop) (A0 : Option Addr) (n0 c0 : Nat) (d0 : List SeenD) (l0 : List SeenT) (p1 : Int) (r0 : Int) (H : Own w D w []) (hd0 : List.map SeenD.abs d0 = l0) (hx0 : Ro w D fun w' => Rds w' 6 A0 n0 (List.flatMap SeenD.cells d0)) (hm0 : ∀ x ∈ d0, Ro w D (fun w' => Rds w' 6 x.xOps.A x.xOps.ls.length (List.flatMap OpD.cells x.xOps.ls)) ∧ (x.xOps.ls.length ≤ x.xOps.c ∧ x.xOps.ls.length ≤ 9223372036854775807) ∧ Ro w D (fun w' => Rds w' 3 x.xResults.A x.xResults.ls.length (List.flatMap ResultD.cells x.xResults.ls)) ∧ (x.xResults.ls.length ≤ x.xResults.c ∧ x.xResults.ls.length ≤ 9223372036854775807) ∧ (∀ y1 ∈ x.xResults.ls, Ro w D (fun w' => Rds w' 2 y1.xPairs.A y1.xPairs.ls.length (List.flatMap PairD.cells y1.xPairs.ls)) ∧ (y1.xPairs.ls.length ≤ y1.xPairs.c ∧ y1.xPairs.ls.length ≤ 9223372036854775807))) (hn0 : n0 = l0.length) (hl0 : l0.length ≤ 9223372036854775807) (hq0 : l0.length ≤ c0) (hh0 : 0 ≤ p1 ∧ p1 < ((l0.length : Nat) : Int) ∧ l0.length ≤ 1000000000) (hh1 : (∀ n : Nat, ((n : Nat) : Int) ≤ p1 → RpOk (List.take n l0))) (hr : r23_wrong l0 p1 = r0) :
    Calls Try.prog 19 #[.slice A0 n0 c0, .int .i64 p1] w (Ret fun v w' => v = .int .i64 r0 ∧ Own w D w' []) := by
 subst hn0
 have hdl0 := abs_len hd0
 refine Calls.body (args := [.slice A0 l0.length c0, .int .i64 p1]) Try.func19 rfl rfl rfl ?_
 show Wp _ _ _ [(0, .slice A0 l0.length c0), (1, .int .i64 p1)] _ _
 refine sr (Ar rfl (Mz rfl (fw (.int .i64 ((Int.toNat p1 : Nat) : Int)) (Yl.int (e := p1) (Yl.move rfl) (by omega)) ?_)))
 obtain ⟨x21, hx22⟩ := rds_at (ls := d0) (i := Int.toNat p1) SeenD.len (by decide) (H.ro hx0) (by first | omega | (simp; done) | (simp; omega))
 have hX23 := abs_at hd0 hx22
 have hb24 := (hm0 _ (List.mem_of_getElem? hx22)).2.1
 have hb25 := (hm0 _ (List.mem_of_getElem? hx22)).2.2.2.1
 have hl26 : List.length (List.map ResultD.abs x21.xResults.ls) = x21.xResults.ls.length := List.length_map ..
 refine fw (.pointer (some ⟨ab A0, ao A0 + (Int.toNat p1) * 6, none⟩)) (Yl.indexAddr (El22) rfl rfl ((H.ro hx0).addr (i := Int.toNat p1) (by omega)) (by omega)) (fw (.agg (SeenD.cells x21).toArray) (Yl.load rfl (Lds.agg (cs := (SeenD.cells x21)) Try.isAgg39 Try.sizeOf39 ((H.ro hx0).elem SeenD.len hx22 (by decide)))) ?_)
 refine npw [.int .i64 0, .int .i64 0, .int .u64 0, .int .i64 0, .slice none 0 0, .slice none 0 0] 39 H ?_
 intro g27 w28 H29
 refine sto (SeenD.cells x21) 0 H29 Try.sizeOf39 ?_
 intro w30 H31
 refine ns (Mz rfl (Mz rfl ?_))
 obtain ⟨r37, hr38⟩ : ∃ q, r23_before l0 p1 1 = q := ⟨_, rfl⟩
 obtain ⟨D32, HP33, ro34, bk35, rr36⟩ := Own.enter0 H31
 refine cl Try.call28 (r23_before_ok _ _ A0 l0.length c0 d0 l0 p1 1 r37 HP33 hd0 (ro34 _ hx0) (fun x9 h9 => ⟨ro34 _ (hm0 x9 h9).1, (hm0 x9 h9).2.1, ro34 _ (hm0 x9 h9).2.2.1, (hm0 x9 h9).2.2.2.1, (fun y1 k1 => ⟨ro34 _ ((hm0 x9 h9).2.2.2.2 y1 k1).1, ((hm0 x9 h9).2.2.2.2 y1 k1).2⟩)⟩) rfl (by omega) (by omega) hr38) ?_
 rintro _ w39 ⟨rfl, HQ40, hk42⟩
 have H41 := bk35 _ _ HQ40
 replace hk42 : -1 ≤ r37 ∧ r37 < p1 := hk42
 refine Ar rfl (Mz rfl (Mz rfl ?_))
 obtain ⟨r48, hr49⟩ : ∃ q, r23_before l0 p1 2 = q := ⟨_, rfl⟩
 obtain ⟨D43, HP44, ro45, bk46, rr47⟩ := Own.enter0 H41
 refine cl Try.call28 (r23_before_ok _ _ A0 l0.length c0 d0 l0 p1 2 r48 HP44 hd0 (ro45 _ hx0) (fun x9 h9 => ⟨ro45 _ (hm0 x9 h9).1, (hm0 x9 h9).2.1, ro45 _ (hm0 x9 h9).2.2.1, (hm0 x9 h9).2.2.2.1, (fun y1 k1 => ⟨ro45 _ ((hm0 x9 h9).2.2.2.2 y1 k1).1, ((hm0 x9 h9).2.2.2.2 y1 k1).2⟩)⟩) rfl (by omega) (by omega) hr49) ?_
 rintro _ w50 ⟨rfl, HQ51, hk53⟩
 have H52 := bk46 _ _ HQ51
 replace hk53 : -1 ≤ r48 ∧ r48 < p1 := hk53
 refine Ar rfl (Mz rfl (Mz rfl ?_))
 obtain ⟨r59, hr60⟩ : ∃ q, r23_before l0 p1 3 = q := ⟨_, rfl⟩
 obtain ⟨D54, HP55, ro56, bk57, rr58⟩ := Own.enter0 H52
 refine cl Try.call28 (r23_before_ok _ _ A0 l0.length c0 d0 l0 p1 3 r59 HP55 hd0 (ro56 _ hx0) (fun x9 h9 => ⟨ro56 _ (hm0 x9 h9).1, (hm0 x9 h9).2.1, ro56 _ (hm0 x9 h9).2.2.1, (hm0 x9 h9).2.2.2.1, (fun y1 k1 => ⟨ro56 _ ((hm0 x9 h9).2.2.2.2 y1 k1).1, ((hm0 x9 h9).2.2.2.2 y1 k1).2⟩)⟩) rfl (by omega) (by omega) hr60) ?_
 rintro _ w61 ⟨rfl, HQ62, hk64⟩
 have H63 := bk57 _ _ HQ62
 replace hk64 : -1 ≤ r59 ∧ r59 < p1 := hk64
 refine Ar rfl (Kz (.pointer (some ⟨g27, 1, none⟩)) (Lz (.int .i64 x21.xClient) H63 0 Try.isAgg3 (Kz (.bool (decide (x21.xClient ≥ 1))) (Mz rfl ?_))))
 by_cases h65 : x21.xClient ≥ 1
 refine Gz (.pointer (some ⟨g27, 1, none⟩)) (dT h65) (Gl (.int .i64 x21.xClient) (dT h65) H63 0 Try.isAgg3 (Gz (.bool (decide (x21.xClient ≤ 4))) (dT h65) (fw (.bool (decide (x21.xClient ≤ 4))) (Yl.pickT rfl (dT h65) rfl) (Ar rfl (An rfl (Wp.seq (sr (Kz (.pointer (some ⟨g27, 0, none⟩)) (Lz (.int .i64 x21.xKind) H63 0 Try.isAgg3 (nt (bo (sr (Kz (.bool (decide (x21.xKind = 1))) (An rfl ?_))))))))))))))
 by_cases h66 : x21.xKind = 1
 refine jT (dT h66) (sr (Mz rfl (Mz rfl ?_)))
 by_cases h67 : x21.xClient ≤ 4
 refine Gz (.pointer (some ⟨g27, 4, none⟩)) (dT h67) (Gl (.slice x21.xOps.A x21.xOps.ls.length x21.xOps.c) (dT h67) H63 0 Try.isAgg36 ?_)
 obtain ⟨r73, hr74⟩ : ∃ q, r04_Check x21.xOps.ls = q := ⟨_, rfl⟩
 obtain ⟨D68, HP69, ro70, bk71, rr72⟩ := Own.enter0 H63
 refine clG (dT h67) Try.call14 (r04_Check_ok _ _ x21.xOps.A x21.xOps.ls.length x21.xOps.c x21.xOps.ls r73 HP69 (ro70 _ (hm0 _ (List.mem_of_getElem? hx22)).1) rfl (by omega) hr74) ?_
 rintro _ w75 ⟨rfl, HQ76, hk78⟩
 have H77 := bk71 _ _ HQ76
 replace hk78 : ¬ (r73 = 0) ∨ x21.xOps.ls.length ≤ 24 := hk78
 refine Gz (.bool (decide (r73 = 0))) (dT h67) (fw (.bool (decide (r73 = 0))) (Yl.pickT rfl (dT h67) rfl) (An rfl (Wp.region (Mz rfl (Kz (.bool (decide (r37 ≥ 0))) (Az rfl (WL.nil (bN (Fin.then (Wp.seq (bo (sr (Mz rfl (fw (.bool (decide (¬ (r73 = 0)))) (Yl.bool (e := !(decide (r73 = 0))) yk decide_not.symm) (An rfl ?_)))))))))))))))
 by_cases h79 : r73 = 0
 refine jF (dF (not_not_intro h79)) (sr (Mz rfl (An rfl ?_)))
 by_cases h80 : r37 ≥ 0
 refine jT (dT h80) (sr (An rfl (rt (bR (tR (rs ?_))))))
 have H81 := H77.pk []
 obtain rfl : _ = 6 := hr.symm.trans (et (bnd_of (getD_of hX23)) (et (bnd_of hr38) (et (bnd_of hr49) (et (bnd_of hr60) (et (ip h65) (et (ip h66) (et (ip h67) (et (bnd_of hr74) (et (ip h79) (ip h80))))))))))
 exact ⟨rfl, H81⟩
 refine jF (dF h80) (sr (Kz (.pointer (some ⟨g27, 0, none⟩)) (Lz (.int .i64 x21.xKind) H77 0 Try.isAgg3 (Kz (.bool (decide (x21.xKind = 1))) (An rfl (jT (dT h66) (sr (An rfl (rt (bR (tR (rs ?_))))))))))))
 have H82 := H77.pk []
 obtain rfl : _ = 0 := hr.symm.trans (et (bnd_of (getD_of hX23)) (et (bnd_of hr38) (et (bnd_of hr49) (et (bnd_of hr60) (et (ip h65) (et (ip h66) (et (ip h67) (et (bnd_of hr74) (et (ip h79) (iN h80))))))))))
 exact ⟨rfl, H82⟩
 refine jT (dT h79) (sr (An rfl (rt (bR (tR (rs ?_))))))
 have H83 := H77.pk []
 obtain rfl : _ = 1 := hr.symm.trans (et (bnd_of (getD_of hX23)) (et (bnd_of hr38) (et (bnd_of hr49) (et (bnd_of hr60) (et (ip h65) (et (ip h66) (et (ip h67) (et (bnd_of hr74) (iN h79)))))))))
 exact ⟨rfl, H83⟩
 refine Sz (dF h67) (Sz (dF h67) (Sz (dF h67) (Sz (dF h67) (fw (.bool false) (Yl.pickF rfl (dF h67) rfl) (An rfl (Wp.region (Mz rfl (Kz (.bool (decide (r37 ≥ 0))) (Az rfl (WL.nil (bN (Fin.then (Wp.seq (bo (sr (Mz rfl (Kz (.bool true) (An rfl (jt (sr (An rfl (rt (bR (tR (rs ?_)))))))))))))))))))))))))
 have H84 := H63.pk []
 obtain rfl : _ = 1 := hr.symm.trans (et (bnd_of (getD_of hX23)) (et (bnd_of hr38) (et (bnd_of hr49) (et (bnd_of hr60) (et (ip h65) (et (ip h66) (iN h67)))))))
 exact ⟨rfl, H84⟩
 refine jF (dF h66) (sr (Kz (.bool (decide (x21.xKind = 2))) (An rfl ?_)))
 by_cases h85 : x21.xKind = 2
 refine jT (dT h85) (Wp.region (Mz rfl (Kz (.bool (decide (r48 ≥ 0))) (Az rfl (WL.nil (bN (Fin.then (Wp.seq (bo (sr (Mz rfl (fw (.bool (decide (¬ (x21.xClient ≤ 4)))) (Yl.bool (e := !(decide (x21.xClient ≤ 4))) yk decide_not.symm) (An rfl ?_)))))))))))))
 by_cases h86 : x21.xClient ≤ 4
 refine jF (dF (not_not_intro h86)) (sr (Mz rfl (An rfl ?_)))
 by_cases h87 : r48 ≥ 0
 refine jT (dT h87) (sr (An rfl (rt (bR (tR (rs ?_))))))
 have H88 := H63.pk []
 obtain rfl : _ = 6 := hr.symm.trans (et (bnd_of (getD_of hX23)) (et (bnd_of hr38) (et (bnd_of hr49) (et (bnd_of hr60) (et (ip h65) (et (iN h66) (et (ip h85) (et (ip h86) (ip h87)))))))))
 exact ⟨rfl, H88⟩
 refine jF (dF h87) (sr (Kz (.pointer (some ⟨g27, 0, none⟩)) (Lz (.int .i64 x21.xKind) H63 0 Try.isAgg3 (Kz (.bool (decide (x21.xKind = 1))) (An rfl (jF (dF h66) (sr (Mz rfl (Kz (.bool (decide (r37 < 0))) (An rfl ?_))))))))))
 by_cases h89 : r37 < 0
 refine jT (dT h89) (sr (An rfl (rt (bR (tR (rs ?_))))))
 have H90 := H63.pk []
 obtain rfl : _ = 5 := hr.symm.trans (et (bnd_of (getD_of hX23)) (et (bnd_of hr38) (et (bnd_of hr49) (et (bnd_of hr60) (et (ip h65) (et (iN h66) (et (ip h85) (et (ip h86) (et (iN h87) (ip h89))))))))))
 exact ⟨rfl, H90⟩
 refine jF (dF h89) (sr (Kz (.pointer (some ⟨g27, 0, none⟩)) (Lz (.int .i64 x21.xKind) H63 0 Try.isAgg3 (Kz (.bool (decide (x21.xKind = 2))) (Mz rfl (gw (.int .i64 r59) (dT h85) (Yl.move rfl) (Gz (.bool (decide (r59 ≥ 0))) (dT h85) (fw (.bool (decide (r59 ≥ 0))) (Yl.pickT rfl (dT h85) rfl) (An rfl ?_)))))))))
 by_cases h91 : r59 ≥ 0
 refine jT (dT h91) (sr (An rfl (rt (bR (tR (rs ?_))))))
 have H92 := H63.pk []
 obtain rfl : _ = 4 := hr.symm.trans (et (bnd_of (getD_of hX23)) (et (bnd_of hr38) (et (bnd_of hr49) (et (bnd_of hr60) (et (ip h65) (et (iN h66) (et (ip h85) (et (ip h86) (et (iN h87) (et (iN h89) (ip h91)))))))))))
 exact ⟨rfl, H92⟩
 refine jF (dF h91) (sr (Kz (.pointer (some ⟨g27, 0, none⟩)) (Lz (.int .i64 x21.xKind) H63 0 Try.isAgg3 (Kz (.bool (decide (x21.xKind = 2))) (An rfl (jT (dT h85) (sr (An rfl (rt (bR (tR (rs ?_))))))))))))
 have H93 := H63.pk []
 obtain rfl : _ = 0 := hr.symm.trans (et (bnd_of (getD_of hX23)) (et (bnd_of hr38) (et (bnd_of hr49) (et (bnd_of hr60) (et (ip h65) (et (iN h66) (et (ip h85) (et (ip h86) (et (iN h87) (et (iN h89) (iN h91)))))))))))
 exact ⟨rfl, H93⟩
 refine jT (dT h86) (sr (An rfl (rt (bR (tR (rs ?_))))))
 have H94 := H63.pk []
 obtain rfl : _ = 1 := hr.symm.trans (et (bnd_of (getD_of hX23)) (et (bnd_of hr38) (et (bnd_of hr49) (et (bnd_of hr60) (et (ip h65) (et (iN h66) (et (ip h85) (iN h86))))))))
 exact ⟨rfl, H94⟩
 refine jF (dF h85) (sr (Kz (.bool (decide (x21.xKind = 3))) (An rfl ?_)))
 by_cases h95 : x21.xKind = 3
 refine jT (dT h95) (sr (Mz rfl (Mz rfl ?_)))
 by_cases h96 : x21.xClient ≤ 4
 refine Gz (.pointer (some ⟨g27, 3, none⟩)) (dT h96) (Gl (.int .i64 x21.xCode) (dT h96) H63 0 Try.isAgg3 (Gz (.bool (decide (x21.xCode = 1))) (dT h96) (gw (.bool (decide (x21.xCode = 1))) (dT h96) (Yl.move rfl) ?_)))
 by_cases h97 : x21.xCode = 1
 refine Sz (dT h97) (Sz (dT h97) (Sz (dT h97) (gw (.bool true) (dT h96) (Yl.pickT rfl (dT h97) rfl) (fw (.bool true) (Yl.pickT rfl (dT h96) rfl) (An rfl (Wp.region (Mz rfl (Kz (.bool (decide (r59 ≥ 0))) (Az rfl (WL.nil (bN (Fin.then (Wp.seq (bo (sr (Mz rfl (Kz (.bool false) (An rfl (jf (sr (Mz rfl (An rfl ?_))))))))))))))))))))))
 by_cases h98 : r59 ≥ 0
 refine jT (dT h98) (sr (An rfl (rt (bR (tR (rs ?_))))))
 have H99 := H63.pk []
 obtain rfl : _ = 6 := hr.symm.trans (et (bnd_of (getD_of hX23)) (et (bnd_of hr38) (et (bnd_of hr49) (et (bnd_of hr60) (et (ip h65) (et (iN h66) (et (iN h85) (et (ip h95) (et (ip h96) (et (ip h97) (ip h98)))))))))))
 exact ⟨rfl, H99⟩
 refine jF (dF h98) (sr (Kz (.pointer (some ⟨g27, 0, none⟩)) (Lz (.int .i64 x21.xKind) H63 0 Try.isAgg3 (Kz (.bool (decide (x21.xKind = 1))) (An rfl (jF (dF h66) (sr (Mz rfl (Kz (.bool (decide (r37 < 0))) (An rfl ?_))))))))))
 by_cases h100 : r37 < 0
 refine jT (dT h100) (sr (An rfl (rt (bR (tR (rs ?_))))))
 have H101 := H63.pk []
 obtain rfl : _ = 5 := hr.symm.trans (et (bnd_of (getD_of hX23)) (et (bnd_of hr38) (et (bnd_of hr49) (et (bnd_of hr60) (et (ip h65) (et (iN h66) (et (iN h85) (et (ip h95) (et (ip h96) (et (ip h97) (et (iN h98) (ip h100))))))))))))
 exact ⟨rfl, H101⟩
 refine jF (decide_eq_false h100) (sr (Kz (.pointer (some ⟨g27, 0, none⟩)) (Lz (.int .i64 x21.xKind) H63 0 Try.isAgg3 (Kz (.bool (decide (x21.xKind = 2))) (Mz rfl (Sz (decide_eq_false h85) (Sz (decide_eq_false h85) (fw (.bool false) (Yl.pickF rfl (decide_eq_false h85) rfl) (An rfl (jf (sr (Kz (.pointer (some ⟨g27, 0, none⟩)) (Lz (.int .i64 x21.xKind) H63 0 Try.isAgg3 (Kz (.bool (decide (x21.xKind = 2))) (An rfl (jF (decide_eq_false h85) (sr (Kz (.pointer (some ⟨g27, 3, none⟩)) (Lz (.int .i64 x21.xCode) H63 0 Try.isAgg3 (Kz (.bool (decide (x21.xCode = 1))) (Mz rfl (Kz (.bool (decide (r48 ≥ 0))) (fw (.bool (decide (¬ ((decide (x21.xCode = 1)) = (decide (r48 ≥ 0)))))) (Yl.bool (e := !(decide (x21.xCode = 1) == decide (r48 ≥ 0))) yk (by first | (rw [Bool.beq_eq_decide_eq]; exact decide_not.symm) | (by_cases q : (decide (x21.xCode = 1)) = (decide (r48 ≥ 0)) <;> simp [q]))) (An rfl ?_))))))))))))))))))))))))
 by_cases h102 : (decide (x21.xCode = 1)) = (decide (r48 ≥ 0))
 refine jF (dF (not_not_intro h102)) (sr (Kz (.pointer (some ⟨g27, 3, none⟩)) (Lz (.int .i64 x21.xCode) H63 0 Try.isAgg3 (Kz (.bool (decide (x21.xCode = 2))) (Mz rfl ?_)))))
 have hb103 : (decide (x21.xCode = 2)) = false := (dF (by omega))
 refine Sz hb103 (Sz hb103 (Sz hb103 (Sz hb103 (fw (.bool false) (Yl.pickF rfl hb103 rfl) (An rfl (jf (sr (Kz (.pointer (some ⟨g27, 3, none⟩)) (Lz (.int .i64 x21.xCode) H63 0 Try.isAgg3 (Kz (.bool (decide (x21.xCode = 1))) (An rfl (jT (dT h97) (sr (Mz rfl (Mz rfl (fw (.int .i64 ((Int.toNat (r48 + 1) : Nat) : Int)) (Yl.int (e := IntKind.i64.wrap (r48 + 1)) yk (by rw [IntWalk.i64_in _ (by omega)]; omega)) (fw (.slice A0 (Int.toNat (r48 + 1)) c0) (Yl.cutTo (El22) rfl rfl (by omega)) ?_)))))))))))))))))
 have hz109 : Int.toNat (r48 + 1) = List.length (List.take (Int.toNat (r48 + 1)) l0) := (by first | rfl | omega | (simp only [List.length_append, List.length_cons, List.length_nil, List.length_take, List.length_drop, List.length_set, List.length_replicate, List.length_map] <;> omega))
 obtain ⟨⟨r110, r111⟩, hr112⟩ : ∃ q : (List PairD) × (List ResultT), r23_replay (List.take (Int.toNat (r48 + 1)) l0) = q := ⟨_, rfl⟩
 obtain ⟨D104, HP105, ro106, bk107, rr108⟩ := Own.enter0 H63
 refine cl Try.call21 (r23_replay_ok _ _ A0 (Int.toNat (r48 + 1)) c0 (List.take (Int.toNat (r48 + 1)) d0) (List.take (Int.toNat (r48 + 1)) l0) r110 r111 HP105 (by rw [List.map_take, hd0]) (fun w9 h9 => Rds.toE (hi := Int.toNat (r48 + 1)) SeenD.len ((ro106 _ hx0) w9 h9) (by omega)) (fun x9 h9 => ⟨ro106 _ (hm0 x9 (List.mem_of_mem_take h9)).1, (hm0 x9 (List.mem_of_mem_take h9)).2.1, ro106 _ (hm0 x9 (List.mem_of_mem_take h9)).2.2.1, (hm0 x9 (List.mem_of_mem_take h9)).2.2.2.1, (fun y1 k1 => ⟨ro106 _ ((hm0 x9 (List.mem_of_mem_take h9)).2.2.2.2 y1 k1).1, ((hm0 x9 (List.mem_of_mem_take h9)).2.2.2.2 y1 k1).2⟩)⟩) (by first | rfl | omega | (simp only [List.length_append, List.length_cons, List.length_nil, List.length_take, List.length_drop, List.length_set, List.length_replicate, List.length_map] <;> omega)) (by first | omega | (simp only [List.length_append, List.length_cons, List.length_nil, List.length_take, List.length_drop, List.length_set]; omega)) (by exact hh1 _ (by omega)) (by first | omega | (simp only [List.length_take]; omega)) hr112) ?_
 rintro _ w113 ⟨A116, c117, A118, c119, d120, rfl, HQ114, hd121⟩
 have H115 := bk107 _ _ HQ114
 have hl122 := abs_len hd121
 have hb123 := H115.rowC (i := 0) rfl
 have hb124 := H115.rowC (i := 1) rfl
 refine Mz rfl (Kz (.slice A116 r110.length c117) (Kz (.slice A118 r111.length c119) (Az rfl (An rfl (Wp.seq ?_)))))
 have H125 := H115.pk [1, 2, 3]
 refine Wp.region (Mz rfl (Kz (.pointer (some ⟨g27, 5, none⟩)) (Lz (.slice x21.xResults.A x21.xResults.ls.length x21.xResults.c) H125 2 Try.isAgg37 ?_)))
 have hz131 : x21.xResults.ls.length = List.length (List.map ResultD.abs x21.xResults.ls) := (by first | rfl | omega | (simp only [List.length_append, List.length_cons, List.length_nil, List.length_take, List.length_drop, List.length_set, List.length_replicate, List.length_map] <;> omega))
 obtain ⟨r132, hr133⟩ : ∃ q, r04_SameResults r111 (List.map ResultD.abs x21.xResults.ls) = q := ⟨_, rfl⟩
 obtain ⟨D126, HP127, ro128, bk129, rr130⟩ := Own.enter0 H125
 refine cl Try.call29 (r04_SameResults_ok _ _ A118 r111.length c119 d120 r111 x21.xResults.A x21.xResults.ls.length x21.xResults.c x21.xResults.ls (List.map ResultD.abs x21.xResults.ls) r132 HP127 hd121 (rr130 _ 0 _ rfl row_rds) (fun x9 h9 => ⟨rr130 _ 1 _ rfl (sepL_mem (List.mem_flatMap.2 ⟨x9, h9, .head _⟩) row_rds), own_rd (φ := fun _ => _) H125 (i := 1) rfl (sepL_mem (List.mem_flatMap.2 ⟨x9, h9, .head _⟩) row_le2)⟩) rfl (by omega) (rfl : List.map ResultD.abs x21.xResults.ls = List.map ResultD.abs x21.xResults.ls) (ro128 _ (hm0 _ (List.mem_of_getElem? hx22)).2.2.1) (fun x9 h9 => ⟨ro128 _ ((hm0 _ (List.mem_of_getElem? hx22)).2.2.2.2 x9 h9).1, ((hm0 _ (List.mem_of_getElem? hx22)).2.2.2.2 x9 h9).2⟩) (by first | rfl | omega | (simp only [List.length_append, List.length_cons, List.length_nil, List.length_take, List.length_drop, List.length_set, List.length_replicate, List.length_map] <;> omega)) (by first | omega | (simp only [List.length_append, List.length_cons, List.length_nil, List.length_take, List.length_drop, List.length_set]; omega)) hr133) ?_
 rintro _ w134 ⟨rfl, HQ135⟩
 have H136 := bk129 _ _ HQ135
 refine Kz (.bool (!r132)) (nt ?_)
 rcases Bool.eq_false_or_eq_true (r132) with h137 | h137
 refine jF (cn h137) (Wp.skip (bN (Fin.then (Wp.seq ?_))))
 have H138 := H136.pk []
 refine Wp.region (An rfl (rt (rs ?_)))
 have H139 := H138.pk []
 obtain rfl : _ = 0 := hr.symm.trans (et (bnd_of (getD_of hX23)) (et (bnd_of hr38) (et (bnd_of hr49) (et (bnd_of hr60) (et (ip h65) (et (iN h66) (et (iN h85) (et (ip h95) (et (ip h96) (et (ip h97) (et (iN h98) (et (iN h100) (et (ip h102) (et (bnd_of hr112) (et (bnd_of hr133) (ip h137))))))))))))))))
 exact ⟨rfl, H139⟩
 refine jT (cn h137) (Wp.seq ?_)
 have H140 := H136.pk []
 refine Wp.region (An rfl (rt (bR (tR (rs ?_)))))
 have H141 := H140.pk []
 obtain rfl : _ = 11 := hr.symm.trans (et (bnd_of (getD_of hX23)) (et (bnd_of hr38) (et (bnd_of hr49) (et (bnd_of hr60) (et (ip h65) (et (iN h66) (et (iN h85) (et (ip h95) (et (ip h96) (et (ip h97) (et (iN h98) (et (iN h100) (et (ip h102) (et (bnd_of hr112) (et (bnd_of hr133) (ifF h137))))))))))))))))
 exact ⟨rfl, H141⟩
 refine jT (dT h102) (sr (An rfl (rt (bR (tR (rs ?_))))))
 have H142 := H63.pk []
 obtain rfl : _ = 4 := hr.symm.trans (et (bnd_of (getD_of hX23)) (et (bnd_of hr38) (et (bnd_of hr49) (et (bnd_of hr60) (et (ip h65) (et (iN h66) (et (iN h85) (et (ip h95) (et (ip h96) (et (ip h97) (et (iN h98) (et (iN h100) (iN h102)))))))))))))
 exact ⟨rfl, H142⟩
 refine Gz (.pointer (some ⟨g27, 3, none⟩)) (dF h97) (Gl (.int .i64 x21.xCode) (dF h97) H63 0 Try.isAgg3 (Gz (.bool (decide (x21.xCode = 2))) (dF h97) (gw (.bool (decide (x21.xCode = 2))) (dT h96) (Yl.pickF rfl (dF h97) rfl) (fw (.bool (decide (x21.xCode = 2))) (Yl.pickT rfl (dT h96) rfl) (An rfl (Wp.region (Mz rfl (Kz (.bool (decide (r59 ≥ 0))) (Az rfl (WL.nil (bN (Fin.then (Wp.seq (bo (sr (Mz rfl (fw (.bool (decide (¬ (x21.xCode = 2)))) (Yl.bool (e := !(decide (x21.xCode = 2))) yk decide_not.symm) (An rfl ?_))))))))))))))))))
 by_cases h143 : x21.xCode = 2
 refine jF (dF (not_not_intro h143)) (sr (Mz rfl (An rfl ?_)))
 by_cases h144 : r59 ≥ 0
 refine jT (dT h144) (sr (An rfl (rt (bR (tR (rs ?_))))))
 have H145 := H63.pk []
 obtain rfl : _ = 6 := hr.symm.trans (et (bnd_of (getD_of hX23)) (et (bnd_of hr38) (et (bnd_of hr49) (et (bnd_of hr60) (et (ip h65) (et (iN h66) (et (iN h85) (et (ip h95) (et (ip h96) (et (iN h97) (et (ip h143) (ip h144))))))))))))
 exact ⟨rfl, H145⟩
 refine jF (dF h144) (sr (Kz (.pointer (some ⟨g27, 0, none⟩)) (Lz (.int .i64 x21.xKind) H63 0 Try.isAgg3 (Kz (.bool (decide (x21.xKind = 1))) (An rfl (jF (dF h66) (sr (Mz rfl (Kz (.bool (decide (r37 < 0))) (An rfl ?_))))))))))
 by_cases h146 : r37 < 0
 refine jT (dT h146) (sr (An rfl (rt (bR (tR (rs ?_))))))
 have H147 := H63.pk []
 obtain rfl : _ = 5 := hr.symm.trans (et (bnd_of (getD_of hX23)) (et (bnd_of hr38) (et (bnd_of hr49) (et (bnd_of hr60) (et (ip h65) (et (iN h66) (et (iN h85) (et (ip h95) (et (ip h96) (et (iN h97) (et (ip h143) (et (iN h144) (ip h146)))))))))))))
 exact ⟨rfl, H147⟩
 refine jF (decide_eq_false h146) (sr (Kz (.pointer (some ⟨g27, 0, none⟩)) (Lz (.int .i64 x21.xKind) H63 0 Try.isAgg3 (Kz (.bool (decide (x21.xKind = 2))) (Mz rfl (Sz (decide_eq_false h85) (Sz (decide_eq_false h85) (fw (.bool false) (Yl.pickF rfl (decide_eq_false h85) rfl) (An rfl (jf (sr (Kz (.pointer (some ⟨g27, 0, none⟩)) (Lz (.int .i64 x21.xKind) H63 0 Try.isAgg3 (Kz (.bool (decide (x21.xKind = 2))) (An rfl (jF (decide_eq_false h85) (sr (Kz (.pointer (some ⟨g27, 3, none⟩)) (Lz (.int .i64 x21.xCode) H63 0 Try.isAgg3 (Kz (.bool (decide (x21.xCode = 1))) (Mz rfl (Kz (.bool (decide (r48 ≥ 0))) (fw (.bool (decide (¬ ((decide (x21.xCode = 1)) = (decide (r48 ≥ 0)))))) (Yl.bool (e := !(decide (x21.xCode = 1) == decide (r48 ≥ 0))) yk (by first | (rw [Bool.beq_eq_decide_eq]; exact decide_not.symm) | (by_cases q : (decide (x21.xCode = 1)) = (decide (r48 ≥ 0)) <;> simp [q]))) (An rfl ?_))))))))))))))))))))))))
 by_cases h148 : (decide (x21.xCode = 1)) = (decide (r48 ≥ 0))
 refine jF (dF (not_not_intro h148)) (sr (Kz (.pointer (some ⟨g27, 3, none⟩)) (Lz (.int .i64 x21.xCode) H63 0 Try.isAgg3 (Kz (.bool (decide (x21.xCode = 2))) (Mz rfl (Gz (.pointer (some ⟨g27, 5, none⟩)) (dT h143) (Gl (.slice x21.xResults.A x21.xResults.ls.length x21.xResults.c) (dT h143) H63 0 Try.isAgg37 (gw (.int .i64 ((List.length (List.map ResultD.abs x21.xResults.ls) : Nat) : Int)) (dT h143) (Yl.int (e := ((x21.xResults.ls.length : Nat) : Int)) yk (by rw [List.length_map])) (Gz (.bool (decide (((List.length (List.map ResultD.abs x21.xResults.ls) : Nat) : Int) > 0))) (dT h143) (fw (.bool (decide (((List.length (List.map ResultD.abs x21.xResults.ls) : Nat) : Int) > 0))) (Yl.pickT rfl (dT h143) rfl) (An rfl ?_)))))))))))
 by_cases h149 : ((List.length (List.map ResultD.abs x21.xResults.ls) : Nat) : Int) > 0
 refine jT (dT h149) (sr (An rfl (rt (bR (tR (rs ?_))))))
 have H150 := H63.pk []
 obtain rfl : _ = 11 := hr.symm.trans (et (bnd_of (getD_of hX23)) (et (bnd_of hr38) (et (bnd_of hr49) (et (bnd_of hr60) (et (ip h65) (et (iN h66) (et (iN h85) (et (ip h95) (et (ip h96) (et (iN h97) (et (ip h143) (et (iN h144) (et (iN h146) (et (ip h148) (ip h149)))))))))))))))
 exact ⟨rfl, H150⟩
 refine jF (dF h149) (sr (Kz (.pointer (some ⟨g27, 3, none⟩)) (Lz (.int .i64 x21.xCode) H63 0 Try.isAgg3 (Kz (.bool (decide (x21.xCode = 1))) (An rfl (jF (dF h97) (Wp.skip (bN (Fin.then (sr (An rfl (rt (rs ?_)))))))))))))
 have H151 := H63.pk []
 obtain rfl : _ = 0 := hr.symm.trans (et (bnd_of (getD_of hX23)) (et (bnd_of hr38) (et (bnd_of hr49) (et (bnd_of hr60) (et (ip h65) (et (iN h66) (et (iN h85) (et (ip h95) (et (ip h96) (et (iN h97) (et (ip h143) (et (iN h144) (et (iN h146) (et (ip h148) (iN h149)))))))))))))))
 exact ⟨rfl, H151⟩
 refine jT (dT h148) (sr (An rfl (rt (bR (tR (rs ?_))))))
 have H152 := H63.pk []
 obtain rfl : _ = 4 := hr.symm.trans (et (bnd_of (getD_of hX23)) (et (bnd_of hr38) (et (bnd_of hr49) (et (bnd_of hr60) (et (ip h65) (et (iN h66) (et (iN h85) (et (ip h95) (et (ip h96) (et (iN h97) (et (ip h143) (et (iN h144) (et (iN h146) (iN h148))))))))))))))
 exact ⟨rfl, H152⟩
 refine jT (dT h143) (sr (An rfl (rt (bR (tR (rs ?_))))))
 have H153 := H63.pk []
 obtain rfl : _ = 1 := hr.symm.trans (et (bnd_of (getD_of hX23)) (et (bnd_of hr38) (et (bnd_of hr49) (et (bnd_of hr60) (et (ip h65) (et (iN h66) (et (iN h85) (et (ip h95) (et (ip h96) (et (iN h97) (iN h143)))))))))))
 exact ⟨rfl, H153⟩
 refine Sz (dF h96) (Sz (dF h96) (Sz (dF h96) (Sz (dF h96) (WL.skipU rfl rfl rfl (WL.skipU rfl rfl rfl (WL.skipU rfl rfl rfl (Sz (dF h96) (fw (.bool false) (Yl.pickF rfl (dF h96) rfl) (An rfl (Wp.region (Mz rfl (Kz (.bool (decide (r59 ≥ 0))) (Az rfl (WL.nil (bN (Fin.then (Wp.seq (bo (sr (Mz rfl (Kz (.bool true) (An rfl (jt (sr (An rfl (rt (bR (tR (rs ?_)))))))))))))))))))))))))))))
 have H154 := H63.pk []
 obtain rfl : _ = 1 := hr.symm.trans (et (bnd_of (getD_of hX23)) (et (bnd_of hr38) (et (bnd_of hr49) (et (bnd_of hr60) (et (ip h65) (et (iN h66) (et (iN h85) (et (ip h95) (iN h96)))))))))
 exact ⟨rfl, H154⟩
 refine jF (dF h95) (Wp.region (Az rfl (WL.nil (bN (Fin.then (Wp.seq (bo (sr (Mz rfl (Kz (.bool true) (An rfl (jt (sr (An rfl (rt (bR (tR (rs ?_))))))))))))))))))
 have H155 := H63.pk []
 obtain rfl : _ = 1 := hr.symm.trans (et (bnd_of (getD_of hX23)) (et (bnd_of hr38) (et (bnd_of hr49) (et (bnd_of hr60) (et (ip h65) (et (iN h66) (et (iN h85) (iN h95))))))))
 exact ⟨rfl, H155⟩
 refine Sz (dF h65) (Sz (dF h65) (Sz (dF h65) (fw (.bool false) (Yl.pickF rfl (dF h65) rfl) (Ar rfl (An rfl (Wp.seq (sr (Kz (.pointer (some ⟨g27, 0, none⟩)) (Lz (.int .i64 x21.xKind) H63 0 Try.isAgg3 (nt (bo (sr (Kz (.bool (decide (x21.xKind = 1))) (An rfl ?_))))))))))))))
 by_cases h156 : x21.xKind = 1
 refine jT (dT h156) (sr (Mz rfl (Mz rfl (Sz rfl (Sz rfl (Sz rfl (Sz rfl (fw (.bool false) (Yl.pickF rfl rfl rfl) (An rfl (Wp.region (Mz rfl (Kz (.bool (decide (r37 ≥ 0))) (Az rfl (WL.nil (bN (Fin.then (Wp.seq (bo (sr (Mz rfl (Kz (.bool true) (An rfl (jt (sr (An rfl (rt (bR (tR (rs ?_)))))))))))))))))))))))))))))
 have H157 := H63.pk []
 obtain rfl : _ = 1 := hr.symm.trans (et (bnd_of (getD_of hX23)) (et (bnd_of hr38) (et (bnd_of hr49) (et (bnd_of hr60) (et (iN h65) (ip h156))))))
 exact ⟨rfl, H157⟩
 refine jF (dF h156) (sr (Kz (.bool (decide (x21.xKind = 2))) (An rfl ?_)))
 by_cases h158 : x21.xKind = 2
 refine jT (dT h158) (Wp.region (Mz rfl (Kz (.bool (decide (r48 ≥ 0))) (Az rfl (WL.nil (bN (Fin.then (Wp.seq (bo (sr (Mz rfl (Kz (.bool true) (An rfl (jt (sr (An rfl (rt (bR (tR (rs ?_))))))))))))))))))))
 have H159 := H63.pk []
 obtain rfl : _ = 1 := hr.symm.trans (et (bnd_of (getD_of hX23)) (et (bnd_of hr38) (et (bnd_of hr49) (et (bnd_of hr60) (et (iN h65) (et (iN h156) (ip h158)))))))
 exact ⟨rfl, H159⟩
 refine jF (dF h158) (sr (Kz (.bool (decide (x21.xKind = 3))) (An rfl ?_)))
 by_cases h160 : x21.xKind = 3
 refine jT (dT h160) (sr (Mz rfl (Mz rfl (Sz rfl (Sz rfl (Sz rfl (Sz rfl (WL.skipU rfl rfl rfl (WL.skipU rfl rfl rfl (WL.skipU rfl rfl rfl (Sz rfl (fw (.bool false) (Yl.pickF rfl rfl rfl) (An rfl (Wp.region (Mz rfl (Kz (.bool (decide (r59 ≥ 0))) (Az rfl (WL.nil (bN (Fin.then (Wp.seq (bo (sr (Mz rfl (Kz (.bool true) (An rfl (jt (sr (An rfl (rt ?_))))))))))))))))))))))))))))))
 refine bR (tR (rs ?_))
 have H161 := H63.pk []
 obtain rfl : _ = 1 := hr.symm.trans (et (bnd_of (getD_of hX23)) (et (bnd_of hr38) (et (bnd_of hr49) (et (bnd_of hr60) (et (iN h65) (et (iN h156) (et (iN h158) (ip h160))))))))
 exact ⟨rfl, H161⟩
 refine jF (dF h160) (Wp.region (Az rfl (WL.nil (bN (Fin.then (Wp.seq (bo (sr (Mz rfl (Kz (.bool true) (An rfl (jt (sr (An rfl (rt (bR (tR (rs ?_))))))))))))))))))
 have H162 := H63.pk []
 obtain rfl : _ = 1 := hr.symm.trans (et (bnd_of (getD_of hX23)) (et (bnd_of hr38) (et (bnd_of hr49) (et (bnd_of hr60) (et (iN h65) (et (iN h156) (et (iN h158) (iN h160))))))))
 exact ⟨rfl, H162⟩
end Go.Proofs.Ytjcdgofegkngpaa
