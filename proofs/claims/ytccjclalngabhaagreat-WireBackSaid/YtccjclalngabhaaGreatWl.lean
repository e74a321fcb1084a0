/-
 wire: the chapter's examples, and what is the same.
-/
import Derived.Test.YtccjclalngabhaaGreatWx
import Derived.Test.YtccjclalngabhaaGreatWf
import Derived.Test.YtccjclalngabhaaGreatWiD
import Derived.Test.YtccjclalngabhaaGreatWu
import Derived.Test.YtccjclalngabhaaGreatWs
namespace Go.Proofs.YtccjclalngabhaaGreat
open Go.RowKit
set_option linter.unusedVariables false
set_option linter.unusedSectionVars false
set_option linter.unusedSimpArgs false
def w18_sealed (p0 : List UInt8) : (List UInt8) :=
 bnd (frame_Seal p0) fun yr30 => yr30.1
set_option maxRecDepth 100000 in
theorem w18_sealed_ok (w : World) (D : Nat → Prop) (p0 : List UInt8) (r0 : List UInt8) (H : Own w D w []) (hh0 : p0.length ≤ 100000) (hr : w18_sealed p0 = r0) :
    Calls Tryz.prog 18 #[.string ⟨List.toArray p0⟩] w (Ret fun v w' => ∃ (B0 : Option Addr) (b0 : Nat), v = .slice B0 r0.length b0 ∧ Own w D w' [row B0 r0.length b0 (List.flatMap eB r0) 5 1] ∧ (r0.length ≤ p0.length + 15)) := by
 refine Calls.body (args := [.string ⟨List.toArray p0⟩]) Tryz.func18 rfl rfl rfl ?_
 show Wp _ _ _ [(0, .string ⟨List.toArray p0⟩)] _ _
 refine sr (Ar rfl (Mz rfl ?_))
 refine WL.do rfl (Do.toBytesE (l := p0) Tryz.underlying9 Tryz.underlying31 Tryz.underlying5 H rfl (by unfold maxLen; omega) ?_)
 intro A21 c22 w23 H24
 obtain ⟨⟨r30, r31⟩, hr32⟩ : ∃ q : (List UInt8) × Int, frame_Seal p0 = q := ⟨_, rfl⟩
 obtain ⟨D25, HP26, ro27, bk28, rr29⟩ := Own.enter0 H24
 refine cl Tryz.call17 (frame_Seal_ok _ _ A21 p0.length c22 p0 r30 r31 HP26 (rr29 _ 0 _ rfl row_rds) rfl (by omega) hr32) ?_
 rintro _ w33 ⟨A36, c37, rfl, HQ34, hk38⟩
 have H35 := bk28 _ _ HQ34
 have hb39 := H35.rowC (i := 0) rfl
 replace hk38 : r30.length ≤ p0.length + 15 := hk38
 refine Mz rfl (Kz (.slice A36 r30.length c37) (Kz (.int .i64 r31) (Az rfl (An rfl (Wp.seq ?_)))))
 have H40 := H35.pk [0]
 refine Wp.region (Mz rfl (An rfl (rt (rs ?_))))
 have H41 := H40.pk [0]
 obtain rfl : _ = r30 := hr.symm.trans (bnd_of hr32)
 exact ⟨A36, c37, rfl, H41, (by first | omega | (simp only [List.length_cons, List.length_nil, List.length_append]; omega))⟩
def r04_SameOps_L0 (l1 : List OpD) : List OpD → Nat → Unit ⊕ Bool
  | [], k22 => Sum.inl ()
  | x34 :: q23, k22 => bnd (List.getD l1 k22 default) fun yx39 => if (x34.xKind = yx39.xKind) ∧ (x34.xKey = yx39.xKey) ∧ (x34.xValue = yx39.xValue) ∧ (x34.xLo = yx39.xLo) ∧ (x34.xHi = yx39.xHi) ∧ (x34.xMost = yx39.xMost) then r04_SameOps_L0 l1 q23 (k22 + 1) else Sum.inr (false)
def r04_SameOps (l0 : List OpD) (l1 : List OpD) : Bool :=
 if ((l0.length : Nat) : Int) = ((l1.length : Nat) : Int) then lp (r04_SameOps_L0 l1 l0 0) fun _ => true else false
set_option maxRecDepth 100000 in
theorem r04_SameOps_ok (w : World) (D : Nat → Prop) (A0 : Option Addr) (n0 c0 : Nat) (l0 : List OpD) (A1 : Option Addr) (n1 c1 : Nat) (l1 : List OpD) (r0 : Bool) (H : Own w D w []) (hx0 : Ro w D fun w' => Rds w' 6 A0 n0 (List.flatMap OpD.cells l0)) (hn0 : n0 = l0.length) (hl0 : l0.length ≤ 9223372036854775807) (hx1 : Ro w D fun w' => Rds w' 6 A1 n1 (List.flatMap OpD.cells l1)) (hn1 : n1 = l1.length) (hl1 : l1.length ≤ 9223372036854775807) (hr : r04_SameOps l0 l1 = r0) :
    Calls Tryz.prog 48 #[.slice A0 n0 c0, .slice A1 n1 c1] w (Ret fun v w' => v = .bool r0 ∧ Own w D w' []) := by
 subst hn0 hn1
 refine Calls.body (args := [.slice A0 l0.length c0, .slice A1 l1.length c1]) Tryz.func48 rfl rfl rfl ?_
 show Wp _ _ _ [(0, .slice A0 l0.length c0), (1, .slice A1 l1.length c1)] _ _
 refine sr (An rfl (Wp.seq (sr (Mz rfl (Kz (.int .i64 ((l0.length : Nat) : Int)) (Mz rfl (Kz (.int .i64 ((l1.length : Nat) : Int)) (fw (.bool (decide (¬ (((l0.length : Nat) : Int) = ((l1.length : Nat) : Int))))) (Yl.bool (e := !(decide (((l0.length : Nat) : Int) = ((l1.length : Nat) : Int)))) yk decide_not.symm) (nt ?_)))))))))
 by_cases h21 : ((l0.length : Nat) : Int) = ((l1.length : Nat) : Int)
 refine jF (dF (not_not_intro h21)) (sk (Wp.seq (sr (Mz rfl (Kz (.int .i64 ((l0.length : Nat) : Int)) (Mn rfl (bo ?_)))))))
 have H24 : Own w D w [] := H.pk []
 obtain ⟨I28, hI29⟩ : ∃ q : Nat → World → Prop, q = fun (i : Nat) w' => Own w D w' [] ∧ (i ≤ l0.length ∧ r04_SameOps_L0 l1 l0 0 = r04_SameOps_L0 l1 (List.drop i l0) i) := ⟨_, rfl⟩
 have dm30 : ∀ {k22 : Nat} {w' : World}, I28 k22 w' ↔ Own w D w' [] ∧ k22 ≤ l0.length ∧ r04_SameOps_L0 l1 l0 0 = r04_SameOps_L0 l1 (List.drop k22 l0) k22 := by intros; subst hI29; exact Iff.rfl
 refine Wp.loop (fun i : Nat => [(4, .bool false), (13, .int .i64 ((i : Nat) : Int)), (12, .int .i64 ((l0.length : Nat) : Int)), (0, .slice A0 l0.length c0), (1, .slice A1 l1.length c1)]) I28 (fun i => l0.length - i) 0 ⟨rfl, rfl, rfl, rfl, rfl, trivial⟩ (dm30.2 ⟨H24, by omega, rfl⟩) ?_
 rintro k22 w25 hf27
 show Wp _ _ _ [(4, .bool false), (13, .int .i64 ((k22 : Nat) : Int)), (12, .int .i64 ((l0.length : Nat) : Int)), (0, .slice A0 l0.length c0), (1, .slice A1 l1.length c1)] _ _
 obtain ⟨H26, hi32, hq31⟩ := dm30.1 hf27
 refine sr (Kz (.bool (decide (((k22 : Nat) : Int) < ((l0.length : Nat) : Int)))) (nt (Wp.seq ?_)))
 by_cases h33 : ((k22 : Nat) : Int) < ((l0.length : Nat) : Int)
 obtain ⟨x34, hx35⟩ := rds_at (ls := l0) (i := k22) OpD.len (by decide) (H26.ro hx0) (by first | omega | (simp; done) | (simp; omega))
 have hd36 := drop_at hx35
 refine jT (dT h33) (sk (Wp.seq (bo (sr (Mz rfl (An rfl (Wp.seq ?_)))))))
 have H38 := H26.drew
 refine Wp.drawnX [] (fun W => ∃ L', Own w D W ([] ++ L')) (by kernel_rfl) (by kernel_rfl) (NoP.then (NoP.block (NoP.then (NoP.then (NoP.block (NoP.then NoP.base)))))) ⟨_, H38⟩ ?_
 revert H38
 generalize World.drew w25 = w37
 intro H38
 refine GX.take (v := .slice A0 l0.length c0) (rs := []) 0 rfl (by kernel_rfl) (fun _ _ => Yl.move rfl) (GX.take (v := .int .i64 ((k22 : Nat) : Int)) (rs := []) 1 rfl (by kernel_rfl) (fun _ _ => Yl.move rfl) (GX.take (v := .pointer (some ⟨ab A0, ao A0 + k22 * 6, none⟩)) (rs := []) 2 rfl (by kernel_rfl) (fun _ ⟨_, H9⟩ => Yl.indexAddr (El25) rfl rfl ((H9.ro hx0).addr (i := k22) (by omega)) (by omega)) (GX.take (v := .agg (OpD.cells x34).toArray) (rs := []) 3 rfl (by kernel_rfl) (fun _ ⟨_, H9⟩ => Yl.load rfl (Lds.agg (cs := (OpD.cells x34)) Tryz.isAgg64 Tryz.sizeOf64 ((H9.ro hx0).elem OpD.len hx35 (by decide)))) (GX.take (v := .slice A1 l1.length c1) (rs := []) 4 rfl (by kernel_rfl) (fun _ _ => Yl.move rfl) (GX.take (v := .int .i64 ((k22 : Nat) : Int)) (rs := []) 5 rfl (by kernel_rfl) (fun _ _ => Yl.move rfl) ?_)))))
 obtain ⟨x39, hx40⟩ := at_of (ls := l1) (i := k22) (by first | omega | (simp; done) | (simp; omega))
 refine GX.take (v := .pointer (some ⟨ab A1, ao A1 + k22 * 6, none⟩)) (rs := []) 6 rfl (by kernel_rfl) (fun _ ⟨_, H9⟩ => Yl.indexAddr (El25) rfl rfl ((H9.ro hx1).addr (i := k22) (by omega)) (by omega)) (GX.take (v := .agg (OpD.cells x39).toArray) (rs := []) 7 rfl (by kernel_rfl) (fun _ ⟨_, H9⟩ => Yl.load rfl (Lds.agg (cs := (OpD.cells x39)) Tryz.isAgg64 Tryz.sizeOf64 ((H9.ro hx1).elem OpD.len hx40 (by decide)))) (GX.take (v := .bool (decide (¬ ((x34.xKind = x39.xKind) ∧ (x34.xKey = x39.xKey) ∧ (x34.xValue = x39.xValue) ∧ (x34.xLo = x39.xLo) ∧ (x34.xHi = x39.xHi) ∧ (x34.xMost = x39.xMost))))) (rs := []) 8 rfl (by kernel_rfl) (fun _ _ => Yl.bool (e := !(decide ((x34.xKind = x39.xKind) ∧ (x34.xKey = x39.xKey) ∧ (x34.xValue = x39.xValue) ∧ (x34.xLo = x39.xLo) ∧ (x34.xHi = x39.xHi) ∧ (x34.xMost = x39.xMost)))) (Yl.neAgg rfl rfl (by kernel_rfl) rfl (Eqv.struct Tryz.underlying64 (by kernel_rfl) (EqF.dec (EqF.cons (u := .int .i64 x34.xKind) (v := .int .i64 x39.xKind) (by decide) (fun _ => by kernel_rfl) (fun _ => by kernel_rfl) (Eqv.int Tryz.underlying3) (EqF.cons (u := .string ⟨List.toArray x34.xKey⟩) (v := .string ⟨List.toArray x39.xKey⟩) (by decide) (fun _ => by kernel_rfl) (fun _ => by kernel_rfl) (Eqv.string Tryz.underlying9) (EqF.cons (u := .string ⟨List.toArray x34.xValue⟩) (v := .string ⟨List.toArray x39.xValue⟩) (by decide) (fun _ => by kernel_rfl) (fun _ => by kernel_rfl) (Eqv.string Tryz.underlying9) (EqF.cons (u := .string ⟨List.toArray x34.xLo⟩) (v := .string ⟨List.toArray x39.xLo⟩) (by decide) (fun _ => by kernel_rfl) (fun _ => by kernel_rfl) (Eqv.string Tryz.underlying9) (EqF.cons (u := .string ⟨List.toArray x34.xHi⟩) (v := .string ⟨List.toArray x39.xHi⟩) (by decide) (fun _ => by kernel_rfl) (fun _ => by kernel_rfl) (Eqv.string Tryz.underlying9) (EqF.cons (u := .int .i64 x34.xMost) (v := .int .i64 x39.xMost) (by decide) (fun _ => by kernel_rfl) (fun _ => by kernel_rfl) (Eqv.int Tryz.underlying3) (EqF.nil.up (Nat.zero_le _)))))))) ((congrArg (decide (x34.xKind = x39.xKind) && ·) ((congrArg (decide (x34.xKey = x39.xKey) && ·) ((congrArg (decide (x34.xValue = x39.xValue) && ·) ((congrArg (decide (x34.xLo = x39.xLo) && ·) ((congrArg (decide (x34.xHi = x39.xHi) && ·) and_dec1).trans and_dec)).trans and_dec)).trans and_dec)).trans and_dec)).trans and_dec)))) decide_not.symm) (GX.done (by kernel_rfl) (Fin.then ?_))))
 by_cases h41 : (x34.xKind = x39.xKind) ∧ (x34.xKey = x39.xKey) ∧ (x34.xValue = x39.xValue) ∧ (x34.xLo = x39.xLo) ∧ (x34.xHi = x39.xHi) ∧ (x34.xMost = x39.xMost)
 refine jF (dF (not_not_intro h41)) (Wp.skip (bN (Fin.then (Wp.region (fw (.int .i64 ((k22 + 1 : Nat) : Int)) (Yl.int (e := IntKind.i64.wrap (((k22 : Nat) : Int) + 1)) yk (by rw [IntWalk.i64_in _ (by omega)]; omega)) (Mz rfl (WL.nil ?_)))))))
 have H42 := H38.pk []
 exact Fin.round (k22 + 1) ⟨rfl, rfl, rfl, rfl, rfl, trivial⟩ (dm30.2 ⟨H42, by omega, et (hq31) (et (congrArg (fun q => r04_SameOps_L0 l1 q k22) hd36) (et (bnd_of (getD_of hx40)) (ip h41)))⟩) (by show l0.length - (k22 + 1) < l0.length - k22; omega)
 refine jT (dT h41) (sr (An rfl (rt (bR (tR (tR (bR (tR (rs ?_)))))))))
 have H43 := H38.pk []
 obtain rfl : _ = false := hr.symm.trans (et (ip h21) (lp_r (et (hq31) (et (congrArg (fun q => r04_SameOps_L0 l1 q k22) hd36) (et (bnd_of (getD_of hx40)) (iN h41))))))
 exact ⟨rfl, H43⟩
 refine jF (dF h33) (Wp.exit (Fin.thenX ?_))
 have hL44 : r04_SameOps_L0 l1 l0 0 = Sum.inl () := et (hq31) (et (congrArg (fun q => r04_SameOps_L0 l1 q k22) (drop_end (ls := l0) (i := k22) (by omega))) rfl)
 refine Fin.thenX (Fin.blockX (Fin.then (sr (An rfl (rt (rs ?_))))))
 have H45 := H26.pk []
 obtain rfl : _ = true := hr.symm.trans (et (ip h21) (lp_l hL44))
 exact ⟨rfl, H45⟩
 refine jT (dT h21) (sr (An rfl (rt (tR (rs ?_)))))
 have H46 : Own w D w [] := H.pk []
 obtain rfl : _ = false := hr.symm.trans (iN h21)
 exact ⟨rfl, H46⟩
def r04_SameMap_L0 (l1 : List PairD) : List PairD → Nat → Unit ⊕ Bool
  | [], k22 => Sum.inl ()
  | x34 :: q23, k22 => bnd (List.getD l1 k22 default) fun yx39 => if (x34.xKey = yx39.xKey) ∧ (x34.xValue = yx39.xValue) then r04_SameMap_L0 l1 q23 (k22 + 1) else Sum.inr (false)
def r04_SameMap (l0 : List PairD) (l1 : List PairD) : Bool :=
 if ((l0.length : Nat) : Int) = ((l1.length : Nat) : Int) then lp (r04_SameMap_L0 l1 l0 0) fun _ => true else false
set_option maxRecDepth 100000 in
theorem r04_SameMap_ok (w : World) (D : Nat → Prop) (A0 : Option Addr) (n0 c0 : Nat) (l0 : List PairD) (A1 : Option Addr) (n1 c1 : Nat) (l1 : List PairD) (r0 : Bool) (H : Own w D w []) (hx0 : Ro w D fun w' => Rds w' 2 A0 n0 (List.flatMap PairD.cells l0)) (hn0 : n0 = l0.length) (hl0 : l0.length ≤ 9223372036854775807) (hx1 : Ro w D fun w' => Rds w' 2 A1 n1 (List.flatMap PairD.cells l1)) (hn1 : n1 = l1.length) (hl1 : l1.length ≤ 9223372036854775807) (hr : r04_SameMap l0 l1 = r0) :
    Calls Tryz.prog 97 #[.slice A0 n0 c0, .slice A1 n1 c1] w (Ret fun v w' => v = .bool r0 ∧ Own w D w' []) := by
 subst hn0 hn1
 refine Calls.body (args := [.slice A0 l0.length c0, .slice A1 l1.length c1]) Tryz.func97 rfl rfl rfl ?_
 show Wp _ _ _ [(0, .slice A0 l0.length c0), (1, .slice A1 l1.length c1)] _ _
 refine sr (An rfl (Wp.seq (sr (Mz rfl (Kz (.int .i64 ((l0.length : Nat) : Int)) (Mz rfl (Kz (.int .i64 ((l1.length : Nat) : Int)) (fw (.bool (decide (¬ (((l0.length : Nat) : Int) = ((l1.length : Nat) : Int))))) (Yl.bool (e := !(decide (((l0.length : Nat) : Int) = ((l1.length : Nat) : Int)))) yk decide_not.symm) (nt ?_)))))))))
 by_cases h21 : ((l0.length : Nat) : Int) = ((l1.length : Nat) : Int)
 refine jF (dF (not_not_intro h21)) (sk (Wp.seq (sr (Mz rfl (Kz (.int .i64 ((l0.length : Nat) : Int)) (Mn rfl (bo ?_)))))))
 have H24 : Own w D w [] := H.pk []
 obtain ⟨I28, hI29⟩ : ∃ q : Nat → World → Prop, q = fun (i : Nat) w' => Own w D w' [] ∧ (i ≤ l0.length ∧ r04_SameMap_L0 l1 l0 0 = r04_SameMap_L0 l1 (List.drop i l0) i) := ⟨_, rfl⟩
 have dm30 : ∀ {k22 : Nat} {w' : World}, I28 k22 w' ↔ Own w D w' [] ∧ k22 ≤ l0.length ∧ r04_SameMap_L0 l1 l0 0 = r04_SameMap_L0 l1 (List.drop k22 l0) k22 := by intros; subst hI29; exact Iff.rfl
 refine Wp.loop (fun i : Nat => [(4, .bool false), (13, .int .i64 ((i : Nat) : Int)), (12, .int .i64 ((l0.length : Nat) : Int)), (0, .slice A0 l0.length c0), (1, .slice A1 l1.length c1)]) I28 (fun i => l0.length - i) 0 ⟨rfl, rfl, rfl, rfl, rfl, trivial⟩ (dm30.2 ⟨H24, by omega, rfl⟩) ?_
 rintro k22 w25 hf27
 show Wp _ _ _ [(4, .bool false), (13, .int .i64 ((k22 : Nat) : Int)), (12, .int .i64 ((l0.length : Nat) : Int)), (0, .slice A0 l0.length c0), (1, .slice A1 l1.length c1)] _ _
 obtain ⟨H26, hi32, hq31⟩ := dm30.1 hf27
 refine sr (Kz (.bool (decide (((k22 : Nat) : Int) < ((l0.length : Nat) : Int)))) (nt (Wp.seq ?_)))
 by_cases h33 : ((k22 : Nat) : Int) < ((l0.length : Nat) : Int)
 obtain ⟨x34, hx35⟩ := rds_at (ls := l0) (i := k22) PairD.len (by decide) (H26.ro hx0) (by first | omega | (simp; done) | (simp; omega))
 have hd36 := drop_at hx35
 refine jT (dT h33) (sk (Wp.seq (bo (sr (Mz rfl (An rfl (Wp.seq ?_)))))))
 have H38 := H26.drew
 refine Wp.drawnX [] (fun W => ∃ L', Own w D W ([] ++ L')) (by kernel_rfl) (by kernel_rfl) (NoP.then (NoP.block (NoP.then (NoP.then (NoP.block (NoP.then NoP.base)))))) ⟨_, H38⟩ ?_
 revert H38
 generalize World.drew w25 = w37
 intro H38
 refine GX.take (v := .slice A0 l0.length c0) (rs := []) 0 rfl (by kernel_rfl) (fun _ _ => Yl.move rfl) (GX.take (v := .int .i64 ((k22 : Nat) : Int)) (rs := []) 1 rfl (by kernel_rfl) (fun _ _ => Yl.move rfl) (GX.take (v := .pointer (some ⟨ab A0, ao A0 + k22 * 2, none⟩)) (rs := []) 2 rfl (by kernel_rfl) (fun _ ⟨_, H9⟩ => Yl.indexAddr (El82) rfl rfl ((H9.ro hx0).addr (i := k22) (by omega)) (by omega)) (GX.take (v := .agg (PairD.cells x34).toArray) (rs := []) 3 rfl (by kernel_rfl) (fun _ ⟨_, H9⟩ => Yl.load rfl (Lds.agg (cs := (PairD.cells x34)) Tryz.isAgg86 Tryz.sizeOf86 ((H9.ro hx0).elem PairD.len hx35 (by decide)))) (GX.take (v := .slice A1 l1.length c1) (rs := []) 4 rfl (by kernel_rfl) (fun _ _ => Yl.move rfl) (GX.take (v := .int .i64 ((k22 : Nat) : Int)) (rs := []) 5 rfl (by kernel_rfl) (fun _ _ => Yl.move rfl) ?_)))))
 obtain ⟨x39, hx40⟩ := at_of (ls := l1) (i := k22) (by first | omega | (simp; done) | (simp; omega))
 refine GX.take (v := .pointer (some ⟨ab A1, ao A1 + k22 * 2, none⟩)) (rs := []) 6 rfl (by kernel_rfl) (fun _ ⟨_, H9⟩ => Yl.indexAddr (El82) rfl rfl ((H9.ro hx1).addr (i := k22) (by omega)) (by omega)) (GX.take (v := .agg (PairD.cells x39).toArray) (rs := []) 7 rfl (by kernel_rfl) (fun _ ⟨_, H9⟩ => Yl.load rfl (Lds.agg (cs := (PairD.cells x39)) Tryz.isAgg86 Tryz.sizeOf86 ((H9.ro hx1).elem PairD.len hx40 (by decide)))) (GX.take (v := .bool (decide (¬ ((x34.xKey = x39.xKey) ∧ (x34.xValue = x39.xValue))))) (rs := []) 8 rfl (by kernel_rfl) (fun _ _ => Yl.bool (e := !(decide ((x34.xKey = x39.xKey) ∧ (x34.xValue = x39.xValue)))) (Yl.neAgg rfl rfl (by kernel_rfl) rfl (Eqv.struct Tryz.underlying86 (by kernel_rfl) (EqF.dec (EqF.cons (u := .string ⟨List.toArray x34.xKey⟩) (v := .string ⟨List.toArray x39.xKey⟩) (by decide) (fun _ => by kernel_rfl) (fun _ => by kernel_rfl) (Eqv.string Tryz.underlying9) (EqF.cons (u := .string ⟨List.toArray x34.xValue⟩) (v := .string ⟨List.toArray x39.xValue⟩) (by decide) (fun _ => by kernel_rfl) (fun _ => by kernel_rfl) (Eqv.string Tryz.underlying9) (EqF.nil.up (Nat.zero_le _)))) ((congrArg (decide (x34.xKey = x39.xKey) && ·) and_dec1).trans and_dec)))) decide_not.symm) (GX.done (by kernel_rfl) (Fin.then ?_))))
 by_cases h41 : (x34.xKey = x39.xKey) ∧ (x34.xValue = x39.xValue)
 refine jF (dF (not_not_intro h41)) (Wp.skip (bN (Fin.then (Wp.region (fw (.int .i64 ((k22 + 1 : Nat) : Int)) (Yl.int (e := IntKind.i64.wrap (((k22 : Nat) : Int) + 1)) yk (by rw [IntWalk.i64_in _ (by omega)]; omega)) (Mz rfl (WL.nil ?_)))))))
 have H42 := H38.pk []
 exact Fin.round (k22 + 1) ⟨rfl, rfl, rfl, rfl, rfl, trivial⟩ (dm30.2 ⟨H42, by omega, et (hq31) (et (congrArg (fun q => r04_SameMap_L0 l1 q k22) hd36) (et (bnd_of (getD_of hx40)) (ip h41)))⟩) (by show l0.length - (k22 + 1) < l0.length - k22; omega)
 refine jT (dT h41) (sr (An rfl (rt (bR (tR (tR (bR (tR (rs ?_)))))))))
 have H43 := H38.pk []
 obtain rfl : _ = false := hr.symm.trans (et (ip h21) (lp_r (et (hq31) (et (congrArg (fun q => r04_SameMap_L0 l1 q k22) hd36) (et (bnd_of (getD_of hx40)) (iN h41))))))
 exact ⟨rfl, H43⟩
 refine jF (dF h33) (Wp.exit (Fin.thenX ?_))
 have hL44 : r04_SameMap_L0 l1 l0 0 = Sum.inl () := et (hq31) (et (congrArg (fun q => r04_SameMap_L0 l1 q k22) (drop_end (ls := l0) (i := k22) (by omega))) rfl)
 refine Fin.thenX (Fin.blockX (Fin.then (sr (An rfl (rt (rs ?_))))))
 have H45 := H26.pk []
 obtain rfl : _ = true := hr.symm.trans (et (ip h21) (lp_l hL44))
 exact ⟨rfl, H45⟩
 refine jT (dT h21) (sr (An rfl (rt (tR (rs ?_)))))
 have H46 : Own w D w [] := H.pk []
 obtain rfl : _ = false := hr.symm.trans (iN h21)
 exact ⟨rfl, H46⟩
def r04_SameResults_L0 (l1 : List ResultT) : List ResultT → Nat → Unit ⊕ Bool
  | [], k22 => Sum.inl ()
  | x34 :: q23, k22 => bnd (List.getD l1 k22 default) fun yx41 => if x34.xFound = yx41.xFound then if x34.xValue ≠ yx41.xValue then Sum.inr (false) else bnd (r04_SameMap x34.xPairs.ls yx41.xPairs.ls) fun yr53 => if yr53 = true then r04_SameResults_L0 l1 q23 (k22 + 1) else Sum.inr (false) else Sum.inr (false)
def r04_SameResults (l0 : List ResultT) (l1 : List ResultT) : Bool :=
 if ((l0.length : Nat) : Int) = ((l1.length : Nat) : Int) then lp (r04_SameResults_L0 l1 l0 0) fun _ => true else false
set_option maxRecDepth 100000 in
theorem r04_SameResults_ok (w : World) (D : Nat → Prop) (A0 : Option Addr) (n0 c0 : Nat) (d0 : List ResultD) (l0 : List ResultT) (A1 : Option Addr) (n1 c1 : Nat) (d1 : List ResultD) (l1 : List ResultT) (r0 : Bool) (H : Own w D w []) (hd0 : List.map ResultD.abs d0 = l0) (hx0 : Ro w D fun w' => Rds w' 3 A0 n0 (List.flatMap ResultD.cells d0)) (hm0 : ∀ x ∈ d0, Ro w D (fun w' => Rds w' 2 x.xPairs.A x.xPairs.ls.length (List.flatMap PairD.cells x.xPairs.ls)) ∧ (x.xPairs.ls.length ≤ x.xPairs.c ∧ x.xPairs.ls.length ≤ 9223372036854775807)) (hn0 : n0 = l0.length) (hl0 : l0.length ≤ 9223372036854775807) (hd1 : List.map ResultD.abs d1 = l1) (hx1 : Ro w D fun w' => Rds w' 3 A1 n1 (List.flatMap ResultD.cells d1)) (hm1 : ∀ x ∈ d1, Ro w D (fun w' => Rds w' 2 x.xPairs.A x.xPairs.ls.length (List.flatMap PairD.cells x.xPairs.ls)) ∧ (x.xPairs.ls.length ≤ x.xPairs.c ∧ x.xPairs.ls.length ≤ 9223372036854775807)) (hn1 : n1 = l1.length) (hl1 : l1.length ≤ 9223372036854775807) (hr : r04_SameResults l0 l1 = r0) :
    Calls Tryz.prog 49 #[.slice A0 n0 c0, .slice A1 n1 c1] w (Ret fun v w' => v = .bool r0 ∧ Own w D w' []) := by
 subst hn0 hn1
 have hdl0 := abs_len hd0
 have hdl1 := abs_len hd1
 refine Calls.body (args := [.slice A0 l0.length c0, .slice A1 l1.length c1]) Tryz.func49 rfl rfl rfl ?_
 show Wp _ _ _ [(0, .slice A0 l0.length c0), (1, .slice A1 l1.length c1)] _ _
 refine sr (An rfl (Wp.seq (sr (Mz rfl (Kz (.int .i64 ((l0.length : Nat) : Int)) (Mz rfl (Kz (.int .i64 ((l1.length : Nat) : Int)) (fw (.bool (decide (¬ (((l0.length : Nat) : Int) = ((l1.length : Nat) : Int))))) (Yl.bool (e := !(decide (((l0.length : Nat) : Int) = ((l1.length : Nat) : Int)))) yk decide_not.symm) (nt ?_)))))))))
 by_cases h21 : ((l0.length : Nat) : Int) = ((l1.length : Nat) : Int)
 refine jF (dF (not_not_intro h21)) (sk (Wp.seq (sr (Mz rfl (Kz (.int .i64 ((l0.length : Nat) : Int)) (Mn rfl (bo ?_)))))))
 have H24 : Own w D w [] := H.pk []
 obtain ⟨I28, hI29⟩ : ∃ q : Nat → World → Prop, q = fun (i : Nat) w' => Own w D w' [] ∧ (i ≤ l0.length ∧ r04_SameResults_L0 l1 l0 0 = r04_SameResults_L0 l1 (List.drop i l0) i) := ⟨_, rfl⟩
 have dm30 : ∀ {k22 : Nat} {w' : World}, I28 k22 w' ↔ Own w D w' [] ∧ k22 ≤ l0.length ∧ r04_SameResults_L0 l1 l0 0 = r04_SameResults_L0 l1 (List.drop k22 l0) k22 := by intros; subst hI29; exact Iff.rfl
 refine Wp.loop (fun i : Nat => [(4, .bool false), (13, .int .i64 ((i : Nat) : Int)), (12, .int .i64 ((l0.length : Nat) : Int)), (0, .slice A0 l0.length c0), (1, .slice A1 l1.length c1)]) I28 (fun i => l0.length - i) 0 ⟨rfl, rfl, rfl, rfl, rfl, trivial⟩ (dm30.2 ⟨H24, by omega, rfl⟩) ?_
 rintro k22 w25 hf27
 show Wp _ _ _ [(4, .bool false), (13, .int .i64 ((k22 : Nat) : Int)), (12, .int .i64 ((l0.length : Nat) : Int)), (0, .slice A0 l0.length c0), (1, .slice A1 l1.length c1)] _ _
 obtain ⟨H26, hi32, hq31⟩ := dm30.1 hf27
 refine sr (Kz (.bool (decide (((k22 : Nat) : Int) < ((l0.length : Nat) : Int)))) (nt (Wp.seq ?_)))
 by_cases h33 : ((k22 : Nat) : Int) < ((l0.length : Nat) : Int)
 obtain ⟨x34, hx35⟩ := rds_at (ls := d0) (i := k22) ResultD.len (by decide) (H26.ro hx0) (by first | omega | (simp; done) | (simp; omega))
 have hX36 := abs_at hd0 hx35
 have hb37 := (hm0 _ (List.mem_of_getElem? hx35)).2
 have hd38 := drop_at hX36
 refine jT (dT h33) (sk (Wp.seq (bo (sr (Mz rfl (An rfl (Wp.seq ?_)))))))
 have H40 := H26.drew
 refine Wp.drawnX [] (fun W => ∃ L', Own w D W ([] ++ L')) (by kernel_rfl) (by kernel_rfl) (NoP.then (NoP.block (NoP.then (NoP.then (NoP.block (NoP.then NoP.base)))))) ⟨_, H40⟩ ?_
 revert H40
 generalize World.drew w25 = w39
 intro H40
 refine GX.take (v := .slice A0 l0.length c0) (rs := []) 0 rfl (by kernel_rfl) (fun _ _ => Yl.move rfl) (GX.take (v := .int .i64 ((k22 : Nat) : Int)) (rs := []) 1 rfl (by kernel_rfl) (fun _ _ => Yl.move rfl) (GX.take (v := .pointer (some ⟨ab A0, ao A0 + k22 * 3, none⟩)) (rs := []) 2 rfl (by kernel_rfl) (fun _ ⟨_, H9⟩ => Yl.indexAddr (El26) rfl rfl ((H9.ro hx0).addr (i := k22) (by omega)) (by omega)) (GX.take (v := .pointer (some ⟨ab A0, ao A0 + k22 * 3, none⟩)) (rs := []) 3 rfl (by kernel_rfl) (fun _ _ => yk) (GX.take (v := .bool x34.xFound) (rs := []) 4 rfl (by kernel_rfl) (fun _ ⟨_, H9⟩ => Yl.load rfl (Lds.one Tryz.isAgg4 (((H9.ro hx0).elem ResultD.len hx35 (by decide)).at_ (k := 0) rfl))) (GX.take (v := .slice A1 l1.length c1) (rs := []) 5 rfl (by kernel_rfl) (fun _ _ => Yl.move rfl) (GX.take (v := .int .i64 ((k22 : Nat) : Int)) (rs := []) 6 rfl (by kernel_rfl) (fun _ _ => Yl.move rfl) ?_))))))
 obtain ⟨x41, hx42⟩ := at_of (ls := d1) (i := k22) (by first | omega | (simp; done) | (simp; omega))
 have hX43 := abs_at hd1 hx42
 have hb44 := (hm1 _ (List.mem_of_getElem? hx42)).2
 refine GX.take (v := .pointer (some ⟨ab A1, ao A1 + k22 * 3, none⟩)) (rs := []) 7 rfl (by kernel_rfl) (fun _ ⟨_, H9⟩ => Yl.indexAddr (El26) rfl rfl ((H9.ro hx1).addr (i := k22) (by omega)) (by omega)) (GX.take (v := .pointer (some ⟨ab A1, ao A1 + k22 * 3, none⟩)) (rs := []) 8 rfl (by kernel_rfl) (fun _ _ => yk) (GX.take (v := .bool x41.xFound) (rs := []) 9 rfl (by kernel_rfl) (fun _ ⟨_, H9⟩ => Yl.load rfl (Lds.one Tryz.isAgg4 (((H9.ro hx1).elem ResultD.len hx42 (by decide)).at_ (k := 0) rfl))) (GX.take (v := .bool (decide (¬ (x34.xFound = x41.xFound)))) (rs := []) 10 rfl (by kernel_rfl) (fun _ _ => Yl.bool (e := !(x34.xFound == x41.xFound)) yk (by first | (rw [Bool.beq_eq_decide_eq]; exact decide_not.symm) | (by_cases q : x34.xFound = x41.xFound <;> simp [q]))) (GX.take (v := .bool (decide (¬ (x34.xFound = x41.xFound)))) (rs := []) 11 rfl (by kernel_rfl) (fun _ _ => Yl.move rfl) ?_))))
 by_cases h45 : x34.xFound = x41.xFound
 refine GX.takeG (v := .slice A0 l0.length c0) (rs := []) 12 rfl rfl rfl (dF (not_not_intro h45)) (by kernel_rfl) (fun _ _ => Yl.move rfl) (GX.takeG (v := .int .i64 ((k22 : Nat) : Int)) (rs := []) 13 rfl rfl rfl (dF (not_not_intro h45)) (by kernel_rfl) (fun _ _ => Yl.move rfl) (GX.takeG (v := .pointer (some ⟨ab A0, ao A0 + k22 * 3, none⟩)) (rs := []) 14 rfl rfl rfl (dF (not_not_intro h45)) (by kernel_rfl) (fun _ ⟨_, H9⟩ => Yl.indexAddr (El26) rfl rfl ((H9.ro hx0).addr (i := k22) (by omega)) (by omega)) (GX.takeG (v := .pointer (some ⟨ab A0, ao A0 + k22 * 3 + 1, none⟩)) (rs := []) 15 rfl rfl rfl (dF (not_not_intro h45)) (by kernel_rfl) (fun _ _ => yk) (GX.takeG (v := .string ⟨List.toArray x34.xValue⟩) (rs := []) 16 rfl rfl rfl (dF (not_not_intro h45)) (by kernel_rfl) (fun _ ⟨_, H9⟩ => Yl.load rfl (Lds.one Tryz.isAgg9 (((H9.ro hx0).elem ResultD.len hx35 (by decide)).at_ (k := 1) rfl))) (GX.takeG (v := .slice A1 l1.length c1) (rs := []) 17 rfl rfl rfl (dF (not_not_intro h45)) (by kernel_rfl) (fun _ _ => Yl.move rfl) (GX.takeG (v := .int .i64 ((k22 : Nat) : Int)) (rs := []) 18 rfl rfl rfl (dF (not_not_intro h45)) (by kernel_rfl) (fun _ _ => Yl.move rfl) (GX.takeG (v := .pointer (some ⟨ab A1, ao A1 + k22 * 3, none⟩)) (rs := []) 19 rfl rfl rfl (dF (not_not_intro h45)) (by kernel_rfl) (fun _ ⟨_, H9⟩ => Yl.indexAddr (El26) rfl rfl ((H9.ro hx1).addr (i := k22) (by omega)) (by omega)) (GX.takeG (v := .pointer (some ⟨ab A1, ao A1 + k22 * 3 + 1, none⟩)) (rs := []) 20 rfl rfl rfl (dF (not_not_intro h45)) (by kernel_rfl) (fun _ _ => yk) (GX.takeG (v := .string ⟨List.toArray x41.xValue⟩) (rs := []) 21 rfl rfl rfl (dF (not_not_intro h45)) (by kernel_rfl) (fun _ ⟨_, H9⟩ => Yl.load rfl (Lds.one Tryz.isAgg9 (((H9.ro hx1).elem ResultD.len hx42 (by decide)).at_ (k := 1) rfl))) (GX.takeG (v := .bool (decide (x34.xValue ≠ x41.xValue))) (rs := []) 22 rfl rfl rfl (dF (not_not_intro h45)) (by kernel_rfl) (fun _ _ => Yl.strNe rfl rfl) (GX.take (v := .bool (decide (x34.xValue ≠ x41.xValue))) (rs := []) 23 rfl (by kernel_rfl) (fun _ _ => Yl.pickF rfl (dF (not_not_intro h45)) rfl) (GX.take (v := .bool (decide (x34.xValue ≠ x41.xValue))) (rs := []) 24 rfl (by kernel_rfl) (fun _ _ => Yl.move rfl) ?_))))))))))))
 by_cases h46 : x34.xValue ≠ x41.xValue
 refine GX.skipG (rs := []) 25 rfl rfl rfl (dT h46) (by kernel_rfl) (GX.skipG (rs := []) 26 rfl rfl rfl (dT h46) (by kernel_rfl) (GX.skipG (rs := []) 27 rfl rfl rfl (dT h46) (by kernel_rfl) (GX.skipG (rs := []) 28 rfl rfl rfl (dT h46) (by kernel_rfl) (GX.skipG (rs := []) 29 rfl rfl rfl (dT h46) (by kernel_rfl) (GX.skipG (rs := []) 30 rfl rfl rfl (dT h46) (by kernel_rfl) (GX.skipG (rs := []) 31 rfl rfl rfl (dT h46) (by kernel_rfl) (GX.skipG (rs := []) 32 rfl rfl rfl (dT h46) (by kernel_rfl) (GX.skipG (rs := []) 33 rfl rfl rfl (dT h46) (by kernel_rfl) (GX.skipG (rs := []) 34 rfl rfl rfl (dT h46) (by kernel_rfl) (GX.skipG (rs := []) 35 rfl rfl rfl (dT h46) (by kernel_rfl) (GX.skipG (rs := []) 36 rfl rfl rfl (dT h46) (by kernel_rfl) (GX.take (v := .bool true) (rs := []) 37 rfl (by kernel_rfl) (fun _ _ => Yl.pickT rfl (dT h46) rfl) (GX.done (by kernel_rfl) (Fin.then (jt (sr (An rfl (rt (bR (tR (tR (bR (tR (rs ?_))))))))))))))))))))))))
 have H47 := H40.pk []
 obtain rfl : _ = false := hr.symm.trans (et (ip h21) (lp_r (et (hq31) (et (congrArg (fun q => r04_SameResults_L0 l1 q k22) hd38) (et (bnd_of (getD_of hX43)) (et (ip h45) (ip h46)))))))
 exact ⟨rfl, H47⟩
 refine GX.takeG (v := .slice A0 l0.length c0) (rs := []) 25 rfl rfl rfl (dF h46) (by kernel_rfl) (fun _ _ => Yl.move rfl) (GX.takeG (v := .int .i64 ((k22 : Nat) : Int)) (rs := []) 26 rfl rfl rfl (dF h46) (by kernel_rfl) (fun _ _ => Yl.move rfl) (GX.takeG (v := .pointer (some ⟨ab A0, ao A0 + k22 * 3, none⟩)) (rs := []) 27 rfl rfl rfl (dF h46) (by kernel_rfl) (fun _ ⟨_, H9⟩ => Yl.indexAddr (El26) rfl rfl ((H9.ro hx0).addr (i := k22) (by omega)) (by omega)) (GX.takeG (v := .pointer (some ⟨ab A0, ao A0 + k22 * 3 + 2, none⟩)) (rs := []) 28 rfl rfl rfl (dF h46) (by kernel_rfl) (fun _ _ => yk) (GX.takeG (v := .slice x34.xPairs.A x34.xPairs.ls.length x34.xPairs.c) (rs := []) 29 rfl rfl rfl (dF h46) (by kernel_rfl) (fun _ ⟨_, H9⟩ => Yl.load rfl (Lds.one Tryz.isAgg82 (((H9.ro hx0).elem ResultD.len hx35 (by decide)).at_ (k := 2) rfl))) (GX.takeG (v := .slice A1 l1.length c1) (rs := []) 30 rfl rfl rfl (dF h46) (by kernel_rfl) (fun _ _ => Yl.move rfl) (GX.takeG (v := .int .i64 ((k22 : Nat) : Int)) (rs := []) 31 rfl rfl rfl (dF h46) (by kernel_rfl) (fun _ _ => Yl.move rfl) (GX.takeG (v := .pointer (some ⟨ab A1, ao A1 + k22 * 3, none⟩)) (rs := []) 32 rfl rfl rfl (dF h46) (by kernel_rfl) (fun _ ⟨_, H9⟩ => Yl.indexAddr (El26) rfl rfl ((H9.ro hx1).addr (i := k22) (by omega)) (by omega)) (GX.takeG (v := .pointer (some ⟨ab A1, ao A1 + k22 * 3 + 2, none⟩)) (rs := []) 33 rfl rfl rfl (dF h46) (by kernel_rfl) (fun _ _ => yk) (GX.takeG (v := .slice x41.xPairs.A x41.xPairs.ls.length x41.xPairs.c) (rs := []) 34 rfl rfl rfl (dF h46) (by kernel_rfl) (fun _ ⟨_, H9⟩ => Yl.load rfl (Lds.one Tryz.isAgg82 (((H9.ro hx1).elem ResultD.len hx42 (by decide)).at_ (k := 2) rfl))) ?_)))))))))
 obtain ⟨r53, hr54⟩ : ∃ q, r04_SameMap x34.xPairs.ls x41.xPairs.ls = q := ⟨_, rfl⟩
 obtain ⟨D48, HP49, ro50, bk51, rr52⟩ := Own.enter0 H40
 refine GX.doG 35 rfl rfl rfl (dF h46) (by kernel_rfl) (Do.call Tryz.call97 rfl (r04_SameMap_ok _ _ x34.xPairs.A x34.xPairs.ls.length x34.xPairs.c x34.xPairs.ls x41.xPairs.A x41.xPairs.ls.length x41.xPairs.c x41.xPairs.ls r53 HP49 (ro50 _ (hm0 _ (List.mem_of_getElem? hx35)).1) rfl (by omega) (ro50 _ (hm1 _ (List.mem_of_getElem? hx42)).1) rfl (by omega) hr54) ?_)
 rintro _ w55 ⟨rfl, HQ56⟩
 have H57 := bk51 _ _ HQ56
 refine ⟨.inr ⟨_, H57⟩, ?_⟩
 refine GX.takeG (v := .bool (!r53)) (rs := []) 36 rfl rfl rfl (dF h46) (by kernel_rfl) (fun _ _ => yk) (GX.take (v := .bool (!r53)) (rs := []) 37 rfl (by kernel_rfl) (fun _ _ => Yl.pickF rfl (dF h46) rfl) (GX.done (by kernel_rfl) (Fin.then ?_)))
 rcases Bool.eq_false_or_eq_true (r53) with h58 | h58
 refine jF (cn h58) (Wp.skip (bN (Fin.then (Wp.region (fw (.int .i64 ((k22 + 1 : Nat) : Int)) (Yl.int (e := IntKind.i64.wrap (((k22 : Nat) : Int) + 1)) yk (by rw [IntWalk.i64_in _ (by omega)]; omega)) (Mz rfl (WL.nil ?_)))))))
 have H59 := H57.pk []
 exact Fin.round (k22 + 1) ⟨rfl, rfl, rfl, rfl, rfl, trivial⟩ (dm30.2 ⟨H59, by omega, et (hq31) (et (congrArg (fun q => r04_SameResults_L0 l1 q k22) hd38) (et (bnd_of (getD_of hX43)) (et (ip h45) (et (iN h46) (et (bnd_of hr54) (ip h58))))))⟩) (by show l0.length - (k22 + 1) < l0.length - k22; omega)
 refine jT (cn h58) (sr (An rfl (rt (bR (tR (tR (bR (tR (rs ?_)))))))))
 have H60 := H57.pk []
 obtain rfl : _ = false := hr.symm.trans (et (ip h21) (lp_r (et (hq31) (et (congrArg (fun q => r04_SameResults_L0 l1 q k22) hd38) (et (bnd_of (getD_of hX43)) (et (ip h45) (et (iN h46) (et (bnd_of hr54) (ifF h58)))))))))
 exact ⟨rfl, H60⟩
 refine GX.skipG (rs := []) 12 rfl rfl rfl (dT h45) (by kernel_rfl) (GX.skipG (rs := []) 13 rfl rfl rfl (dT h45) (by kernel_rfl) (GX.skipG (rs := []) 14 rfl rfl rfl (dT h45) (by kernel_rfl) (GX.skipG (rs := []) 15 rfl rfl rfl (dT h45) (by kernel_rfl) (GX.skipG (rs := []) 16 rfl rfl rfl (dT h45) (by kernel_rfl) (GX.skipG (rs := []) 17 rfl rfl rfl (dT h45) (by kernel_rfl) (GX.skipG (rs := []) 18 rfl rfl rfl (dT h45) (by kernel_rfl) (GX.skipG (rs := []) 19 rfl rfl rfl (dT h45) (by kernel_rfl) (GX.skipG (rs := []) 20 rfl rfl rfl (dT h45) (by kernel_rfl) (GX.skipG (rs := []) 21 rfl rfl rfl (dT h45) (by kernel_rfl) (GX.skipG (rs := []) 22 rfl rfl rfl (dT h45) (by kernel_rfl) (GX.take (v := .bool true) (rs := []) 23 rfl (by kernel_rfl) (fun _ _ => Yl.pickT rfl (dT h45) rfl) (GX.take (v := .bool true) (rs := []) 24 rfl (by kernel_rfl) (fun _ _ => Yl.move rfl) (GX.skipG (rs := []) 25 rfl rfl rfl rfl (by kernel_rfl) (GX.skipG (rs := []) 26 rfl rfl rfl rfl (by kernel_rfl) (GX.skipG (rs := []) 27 rfl rfl rfl rfl (by kernel_rfl) (GX.skipG (rs := []) 28 rfl rfl rfl rfl (by kernel_rfl) (GX.skipG (rs := []) 29 rfl rfl rfl rfl (by kernel_rfl) (GX.skipG (rs := []) 30 rfl rfl rfl rfl (by kernel_rfl) (GX.skipG (rs := []) 31 rfl rfl rfl rfl (by kernel_rfl) (GX.skipG (rs := []) 32 rfl rfl rfl rfl (by kernel_rfl) (GX.skipG (rs := []) 33 rfl rfl rfl rfl (by kernel_rfl) (GX.skipG (rs := []) 34 rfl rfl rfl rfl (by kernel_rfl) (GX.skipG (rs := []) 35 rfl rfl rfl rfl (by kernel_rfl) (GX.skipG (rs := []) 36 rfl rfl rfl rfl (by kernel_rfl) (GX.take (v := .bool true) (rs := []) 37 rfl (by kernel_rfl) (fun _ _ => Yl.pickT rfl rfl rfl) (GX.done (by kernel_rfl) (Fin.then (jt (sr (An rfl (rt (bR (tR (tR (bR (tR ?_))))))))))))))))))))))))))))))))))))
 refine rs ?_
 have H61 := H40.pk []
 obtain rfl : _ = false := hr.symm.trans (et (ip h21) (lp_r (et (hq31) (et (congrArg (fun q => r04_SameResults_L0 l1 q k22) hd38) (et (bnd_of (getD_of hX43)) (iN h45))))))
 exact ⟨rfl, H61⟩
 refine jF (dF h33) (Wp.exit (Fin.thenX ?_))
 have hL62 : r04_SameResults_L0 l1 l0 0 = Sum.inl () := et (hq31) (et (congrArg (fun q => r04_SameResults_L0 l1 q k22) (drop_end (ls := l0) (i := k22) (by omega))) rfl)
 refine Fin.thenX (Fin.blockX (Fin.then (sr (An rfl (rt (rs ?_))))))
 have H63 := H26.pk []
 obtain rfl : _ = true := hr.symm.trans (et (ip h21) (lp_l hL62))
 exact ⟨rfl, H63⟩
 refine jT (dT h21) (sr (An rfl (rt (tR (rs ?_)))))
 have H64 : Own w D w [] := H.pk []
 obtain rfl : _ = false := hr.symm.trans (iN h21)
 exact ⟨rfl, H64⟩
def r17_Same_L0 (l1 : List OwnerD) : List OwnerD → Nat → Unit ⊕ Bool
  | [], k22 => Sum.inl ()
  | x34 :: q23, k22 => bnd (List.getD l1 k22 default) fun yx39 => if (x34.xLo = yx39.xLo) ∧ (x34.xShard = yx39.xShard) then r17_Same_L0 l1 q23 (k22 + 1) else Sum.inr (false)
def r17_Same (l0 : List OwnerD) (l1 : List OwnerD) : Bool :=
 if ((l0.length : Nat) : Int) = ((l1.length : Nat) : Int) then lp (r17_Same_L0 l1 l0 0) fun _ => true else false
set_option maxRecDepth 100000 in
theorem r17_Same_ok (w : World) (D : Nat → Prop) (A0 : Option Addr) (n0 c0 : Nat) (l0 : List OwnerD) (A1 : Option Addr) (n1 c1 : Nat) (l1 : List OwnerD) (r0 : Bool) (H : Own w D w []) (hx0 : Ro w D fun w' => Rds w' 2 A0 n0 (List.flatMap OwnerD.cells l0)) (hn0 : n0 = l0.length) (hl0 : l0.length ≤ 9223372036854775807) (hx1 : Ro w D fun w' => Rds w' 2 A1 n1 (List.flatMap OwnerD.cells l1)) (hn1 : n1 = l1.length) (hl1 : l1.length ≤ 9223372036854775807) (hr : r17_Same l0 l1 = r0) :
    Calls Tryz.prog 50 #[.slice A0 n0 c0, .slice A1 n1 c1] w (Ret fun v w' => v = .bool r0 ∧ Own w D w' []) := by
 subst hn0 hn1
 refine Calls.body (args := [.slice A0 l0.length c0, .slice A1 l1.length c1]) Tryz.func50 rfl rfl rfl ?_
 show Wp _ _ _ [(0, .slice A0 l0.length c0), (1, .slice A1 l1.length c1)] _ _
 refine sr (An rfl (Wp.seq (sr (Mz rfl (Kz (.int .i64 ((l0.length : Nat) : Int)) (Mz rfl (Kz (.int .i64 ((l1.length : Nat) : Int)) (fw (.bool (decide (¬ (((l0.length : Nat) : Int) = ((l1.length : Nat) : Int))))) (Yl.bool (e := !(decide (((l0.length : Nat) : Int) = ((l1.length : Nat) : Int)))) yk decide_not.symm) (nt ?_)))))))))
 by_cases h21 : ((l0.length : Nat) : Int) = ((l1.length : Nat) : Int)
 refine jF (dF (not_not_intro h21)) (sk (Wp.seq (sr (Mz rfl (Kz (.int .i64 ((l0.length : Nat) : Int)) (Mn rfl (bo ?_)))))))
 have H24 : Own w D w [] := H.pk []
 obtain ⟨I28, hI29⟩ : ∃ q : Nat → World → Prop, q = fun (i : Nat) w' => Own w D w' [] ∧ (i ≤ l0.length ∧ r17_Same_L0 l1 l0 0 = r17_Same_L0 l1 (List.drop i l0) i) := ⟨_, rfl⟩
 have dm30 : ∀ {k22 : Nat} {w' : World}, I28 k22 w' ↔ Own w D w' [] ∧ k22 ≤ l0.length ∧ r17_Same_L0 l1 l0 0 = r17_Same_L0 l1 (List.drop k22 l0) k22 := by intros; subst hI29; exact Iff.rfl
 refine Wp.loop (fun i : Nat => [(4, .bool false), (13, .int .i64 ((i : Nat) : Int)), (12, .int .i64 ((l0.length : Nat) : Int)), (0, .slice A0 l0.length c0), (1, .slice A1 l1.length c1)]) I28 (fun i => l0.length - i) 0 ⟨rfl, rfl, rfl, rfl, rfl, trivial⟩ (dm30.2 ⟨H24, by omega, rfl⟩) ?_
 rintro k22 w25 hf27
 show Wp _ _ _ [(4, .bool false), (13, .int .i64 ((k22 : Nat) : Int)), (12, .int .i64 ((l0.length : Nat) : Int)), (0, .slice A0 l0.length c0), (1, .slice A1 l1.length c1)] _ _
 obtain ⟨H26, hi32, hq31⟩ := dm30.1 hf27
 refine sr (Kz (.bool (decide (((k22 : Nat) : Int) < ((l0.length : Nat) : Int)))) (nt (Wp.seq ?_)))
 by_cases h33 : ((k22 : Nat) : Int) < ((l0.length : Nat) : Int)
 obtain ⟨x34, hx35⟩ := rds_at (ls := l0) (i := k22) OwnerD.len (by decide) (H26.ro hx0) (by first | omega | (simp; done) | (simp; omega))
 have hd36 := drop_at hx35
 refine jT (dT h33) (sk (Wp.seq (bo (sr (Mz rfl (An rfl (Wp.seq ?_)))))))
 have H38 := H26.drew
 refine Wp.drawnX [] (fun W => ∃ L', Own w D W ([] ++ L')) (by kernel_rfl) (by kernel_rfl) (NoP.then (NoP.block (NoP.then (NoP.then (NoP.block (NoP.then NoP.base)))))) ⟨_, H38⟩ ?_
 revert H38
 generalize World.drew w25 = w37
 intro H38
 refine GX.take (v := .slice A0 l0.length c0) (rs := []) 0 rfl (by kernel_rfl) (fun _ _ => Yl.move rfl) (GX.take (v := .int .i64 ((k22 : Nat) : Int)) (rs := []) 1 rfl (by kernel_rfl) (fun _ _ => Yl.move rfl) (GX.take (v := .pointer (some ⟨ab A0, ao A0 + k22 * 2, none⟩)) (rs := []) 2 rfl (by kernel_rfl) (fun _ ⟨_, H9⟩ => Yl.indexAddr (El27) rfl rfl ((H9.ro hx0).addr (i := k22) (by omega)) (by omega)) (GX.take (v := .agg (OwnerD.cells x34).toArray) (rs := []) 3 rfl (by kernel_rfl) (fun _ ⟨_, H9⟩ => Yl.load rfl (Lds.agg (cs := (OwnerD.cells x34)) Tryz.isAgg88 Tryz.sizeOf88 ((H9.ro hx0).elem OwnerD.len hx35 (by decide)))) (GX.take (v := .slice A1 l1.length c1) (rs := []) 4 rfl (by kernel_rfl) (fun _ _ => Yl.move rfl) (GX.take (v := .int .i64 ((k22 : Nat) : Int)) (rs := []) 5 rfl (by kernel_rfl) (fun _ _ => Yl.move rfl) ?_)))))
 obtain ⟨x39, hx40⟩ := at_of (ls := l1) (i := k22) (by first | omega | (simp; done) | (simp; omega))
 refine GX.take (v := .pointer (some ⟨ab A1, ao A1 + k22 * 2, none⟩)) (rs := []) 6 rfl (by kernel_rfl) (fun _ ⟨_, H9⟩ => Yl.indexAddr (El27) rfl rfl ((H9.ro hx1).addr (i := k22) (by omega)) (by omega)) (GX.take (v := .agg (OwnerD.cells x39).toArray) (rs := []) 7 rfl (by kernel_rfl) (fun _ ⟨_, H9⟩ => Yl.load rfl (Lds.agg (cs := (OwnerD.cells x39)) Tryz.isAgg88 Tryz.sizeOf88 ((H9.ro hx1).elem OwnerD.len hx40 (by decide)))) (GX.take (v := .bool (decide (¬ ((x34.xLo = x39.xLo) ∧ (x34.xShard = x39.xShard))))) (rs := []) 8 rfl (by kernel_rfl) (fun _ _ => Yl.bool (e := !(decide ((x34.xLo = x39.xLo) ∧ (x34.xShard = x39.xShard)))) (Yl.neAgg rfl rfl (by kernel_rfl) rfl (Eqv.struct Tryz.underlying88 (by kernel_rfl) (EqF.dec (EqF.cons (u := .string ⟨List.toArray x34.xLo⟩) (v := .string ⟨List.toArray x39.xLo⟩) (by decide) (fun _ => by kernel_rfl) (fun _ => by kernel_rfl) (Eqv.string Tryz.underlying9) (EqF.cons (u := .int .i64 x34.xShard) (v := .int .i64 x39.xShard) (by decide) (fun _ => by kernel_rfl) (fun _ => by kernel_rfl) (Eqv.int Tryz.underlying3) (EqF.nil.up (Nat.zero_le _)))) ((congrArg (decide (x34.xLo = x39.xLo) && ·) and_dec1).trans and_dec)))) decide_not.symm) (GX.done (by kernel_rfl) (Fin.then ?_))))
 by_cases h41 : (x34.xLo = x39.xLo) ∧ (x34.xShard = x39.xShard)
 refine jF (dF (not_not_intro h41)) (Wp.skip (bN (Fin.then (Wp.region (fw (.int .i64 ((k22 + 1 : Nat) : Int)) (Yl.int (e := IntKind.i64.wrap (((k22 : Nat) : Int) + 1)) yk (by rw [IntWalk.i64_in _ (by omega)]; omega)) (Mz rfl (WL.nil ?_)))))))
 have H42 := H38.pk []
 exact Fin.round (k22 + 1) ⟨rfl, rfl, rfl, rfl, rfl, trivial⟩ (dm30.2 ⟨H42, by omega, et (hq31) (et (congrArg (fun q => r17_Same_L0 l1 q k22) hd36) (et (bnd_of (getD_of hx40)) (ip h41)))⟩) (by show l0.length - (k22 + 1) < l0.length - k22; omega)
 refine jT (dT h41) (sr (An rfl (rt (bR (tR (tR (bR (tR (rs ?_)))))))))
 have H43 := H38.pk []
 obtain rfl : _ = false := hr.symm.trans (et (ip h21) (lp_r (et (hq31) (et (congrArg (fun q => r17_Same_L0 l1 q k22) hd36) (et (bnd_of (getD_of hx40)) (iN h41))))))
 exact ⟨rfl, H43⟩
 refine jF (dF h33) (Wp.exit (Fin.thenX ?_))
 have hL44 : r17_Same_L0 l1 l0 0 = Sum.inl () := et (hq31) (et (congrArg (fun q => r17_Same_L0 l1 q k22) (drop_end (ls := l0) (i := k22) (by omega))) rfl)
 refine Fin.thenX (Fin.blockX (Fin.then (sr (An rfl (rt (rs ?_))))))
 have H45 := H26.pk []
 obtain rfl : _ = true := hr.symm.trans (et (ip h21) (lp_l hL44))
 exact ⟨rfl, H45⟩
 refine jT (dT h21) (sr (An rfl (rt (tR (rs ?_)))))
 have H46 : Own w D w [] := H.pk []
 obtain rfl : _ = false := hr.symm.trans (iN h21)
 exact ⟨rfl, H46⟩
def r18_Same (p0 : MsgT) (p1 : MsgT) : Bool :=
 if ((p0.xReq : Nat) : Int) = ((p1.xReq : Nat) : Int) then if ((p0.xBoot : Nat) : Int) = ((p1.xBoot : Nat) : Int) then if ((p0.xTxn : Nat) : Int) = ((p1.xTxn : Nat) : Int) then if ((p0.xLow : Nat) : Int) = ((p1.xLow : Nat) : Int) then if ((p0.xVer : Nat) : Int) = ((p1.xVer : Nat) : Int) then if ((p0.xEpoch : Nat) : Int) = ((p1.xEpoch : Nat) : Int) then if ((p0.xMove : Nat) : Int) = ((p1.xMove : Nat) : Int) then if ((p0.xAttempt : Nat) : Int) = ((p1.xAttempt : Nat) : Int) then if ((p0.xN : Nat) : Int) = ((p1.xN : Nat) : Int) then bnd (if p0.xKind = p1.xKind then decide (p0.xFrom = p1.xFrom) else false) fun sJrtttttttttR => bnd (if sJrtttttttttR = true then decide (p0.xTo = p1.xTo) else false) fun sJrtttttttttRaR => bnd (if sJrtttttttttRaR = true then decide (p0.xClient = p1.xClient) else false) fun sJrtttttttttRaRaR => bnd (if sJrtttttttttRaRaR = true then decide (p0.xCode = p1.xCode) else false) fun sJrtttttttttRaRaRaR => bnd (if sJrtttttttttRaRaRaR = true then decide (p0.xPeer = p1.xPeer) else false) fun sJrtttttttttRaRaRaRaR => bnd (if sJrtttttttttRaRaRaRaR = true then decide (p0.xFlag = p1.xFlag) else false) fun sJrtttttttttRaRaRaRaRaR => bnd (if sJrtttttttttRaRaRaRaRaR = true then decide ((p0.xRange.xLo = p1.xRange.xLo) ∧ (p0.xRange.xHi = p1.xRange.xHi)) else false) fun sJrtttttttttRaRaRaRaRaRaR => bnd (if sJrtttttttttRaRaRaRaRaRaR = true then bnd (r04_SameOps p0.xOps.ls p1.xOps.ls) fun yr133 => yr133 else false) fun sJrtttttttttRaRaRaRaRaRaRaR => bnd (if sJrtttttttttRaRaRaRaRaRaRaR = true then bnd (r04_SameResults p0.xResults.ls p1.xResults.ls) fun yr151 => yr151 else false) fun sJrtttttttttRaRaRaRaRaRaRaRaR => bnd (if sJrtttttttttRaRaRaRaRaRaRaRaR = true then bnd (r17_Same p0.xOwners.ls p1.xOwners.ls) fun yr169 => yr169 else false) fun sJrtttttttttRaRaRaRaRaRaRaRaRaR => sJrtttttttttRaRaRaRaRaRaRaRaRaR else false else false else false else false else false else false else false else false else false
set_option maxRecDepth 100000 in
set_option maxHeartbeats 4000000 in
theorem r18_Same_ok (w : World) (D : Nat → Prop) (p0 : MsgT) (A0x0 : Option Addr) (n0x0 c0x0 : Nat) (A0x1 : Option Addr) (n0x1 c0x1 : Nat) (d0x1 : List ResultD) (A0x2 : Option Addr) (n0x2 c0x2 : Nat) (p1 : MsgT) (A1x0 : Option Addr) (n1x0 c1x0 : Nat) (A1x1 : Option Addr) (n1x1 c1x1 : Nat) (d1x1 : List ResultD) (A1x2 : Option Addr) (n1x2 c1x2 : Nat) (r0 : Bool) (H : Own w D w []) (hn0x0 : n0x0 = p0.xOps.ls.length) (hx0x0 : Ro w D fun w' => Rds w' 6 A0x0 p0.xOps.ls.length (List.flatMap OpD.cells p0.xOps.ls)) (hb0x0 : p0.xOps.ls.length ≤ c0x0 ∧ p0.xOps.ls.length ≤ 9223372036854775807) (hd0x1 : List.map ResultD.abs d0x1 = p0.xResults.ls) (hn0x1 : n0x1 = p0.xResults.ls.length) (hx0x1 : Ro w D fun w' => Rds w' 3 A0x1 p0.xResults.ls.length (List.flatMap ResultD.cells d0x1)) (hb0x1 : p0.xResults.ls.length ≤ c0x1 ∧ p0.xResults.ls.length ≤ 9223372036854775807) (hm0x1 : ∀ x ∈ d0x1, Ro w D (fun w' => Rds w' 2 x.xPairs.A x.xPairs.ls.length (List.flatMap PairD.cells x.xPairs.ls)) ∧ (x.xPairs.ls.length ≤ x.xPairs.c ∧ x.xPairs.ls.length ≤ 9223372036854775807)) (hn0x2 : n0x2 = p0.xOwners.ls.length) (hx0x2 : Ro w D fun w' => Rds w' 2 A0x2 p0.xOwners.ls.length (List.flatMap OwnerD.cells p0.xOwners.ls)) (hb0x2 : p0.xOwners.ls.length ≤ c0x2 ∧ p0.xOwners.ls.length ≤ 9223372036854775807) (hn1x0 : n1x0 = p1.xOps.ls.length) (hx1x0 : Ro w D fun w' => Rds w' 6 A1x0 p1.xOps.ls.length (List.flatMap OpD.cells p1.xOps.ls)) (hb1x0 : p1.xOps.ls.length ≤ c1x0 ∧ p1.xOps.ls.length ≤ 9223372036854775807) (hd1x1 : List.map ResultD.abs d1x1 = p1.xResults.ls) (hn1x1 : n1x1 = p1.xResults.ls.length) (hx1x1 : Ro w D fun w' => Rds w' 3 A1x1 p1.xResults.ls.length (List.flatMap ResultD.cells d1x1)) (hb1x1 : p1.xResults.ls.length ≤ c1x1 ∧ p1.xResults.ls.length ≤ 9223372036854775807) (hm1x1 : ∀ x ∈ d1x1, Ro w D (fun w' => Rds w' 2 x.xPairs.A x.xPairs.ls.length (List.flatMap PairD.cells x.xPairs.ls)) ∧ (x.xPairs.ls.length ≤ x.xPairs.c ∧ x.xPairs.ls.length ≤ 9223372036854775807)) (hn1x2 : n1x2 = p1.xOwners.ls.length) (hx1x2 : Ro w D fun w' => Rds w' 2 A1x2 p1.xOwners.ls.length (List.flatMap OwnerD.cells p1.xOwners.ls)) (hb1x2 : p1.xOwners.ls.length ≤ c1x2 ∧ p1.xOwners.ls.length ≤ 9223372036854775807) (hr : r18_Same p0 p1 = r0) :
    Calls Tryz.prog 15 #[.agg (MsgC p0.xKind p0.xFrom p0.xTo p0.xClient p0.xCode p0.xPeer p0.xReq p0.xBoot p0.xTxn p0.xLow p0.xVer p0.xEpoch p0.xMove p0.xAttempt p0.xN p0.xFlag p0.xRange.xLo p0.xRange.xHi A0x0 n0x0 c0x0 A0x1 n0x1 c0x1 A0x2 n0x2 c0x2).toArray, .agg (MsgC p1.xKind p1.xFrom p1.xTo p1.xClient p1.xCode p1.xPeer p1.xReq p1.xBoot p1.xTxn p1.xLow p1.xVer p1.xEpoch p1.xMove p1.xAttempt p1.xN p1.xFlag p1.xRange.xLo p1.xRange.xHi A1x0 n1x0 c1x0 A1x1 n1x1 c1x1 A1x2 n1x2 c1x2).toArray] w (Ret fun v w' => v = .bool r0 ∧ Own w D w' []) := by
 subst hn0x0 hn0x1 hn0x2 hn1x0 hn1x1 hn1x2
 have hdl0x1 := abs_len hd0x1
 have hdl1x1 := abs_len hd1x1
 refine Calls.body (args := [.agg (MsgP p0 A0x0 c0x0 A0x1 c0x1 A0x2 c0x2).toArray, .agg (MsgP p1 A1x0 c1x0 A1x1 c1x1 A1x2 c1x2).toArray]) Tryz.func15 rfl rfl rfl ?_
 show Wp _ _ _ [(0, .agg (MsgP p0 A0x0 c0x0 A0x1 c0x1 A0x2 c0x2).toArray), (1, .agg (MsgP p1 A1x0 c1x0 A1x1 c1x1 A1x2 c1x2).toArray)] _ _
 refine sr ?_
 refine npw (MsgP p0 A0x0 c0x0 A0x1 c0x1 A0x2 c0x2) 29 H ?_
 intro g21 w22 H23
 refine npw (MsgP p1 A1x0 c1x0 A1x1 c1x1 A1x2 c1x2) 29 H23 ?_
 intro g24 w25 H26
 refine An rfl (Wp.seq (sr ?_))
 refine nrw [.int .u8 113, .int .u8 98, .int .u8 116, .int .u8 108, .int .u8 118, .int .u8 101, .int .u8 109, .int .u8 97, .int .u8 110] 5 1 9 H26 ?_
 intro A27 w28 H29
 replace H29 := Own.reh (y := row A27 9 9 (List.flatMap eB ([113, 98, 116, 108, 118, 101, 109, 97, 110])) 5 1) rfl H29
 refine WL.do rfl (Do.mark Tryz.underlying31 Tryz.underlying5 H29 (by omega) rfl ?_)
 intro w30 H31
 refine Kz (.int .i64 9) (Mn rfl (bo (Wp.unroll 200 (sr (Kz (.bool true) (nt (Wp.seq (jt (sk (Wp.seq (bo (sr ?_))))))))))))
 have hx32 : ([113, 98, 116, 108, 118, 101, 109, 97, 110] : List UInt8)[0]? = some 113 := rfl
 refine fw (.pointer (some ⟨ab A27, ao A27 + 0 * 1, none⟩)) (Yl.indexAddr (El31) rfl rfl ((H31.rds (i := 0) rfl).addr (i := 0) (by omega)) (by omega)) (fw (.int .u8 113) (Yl.load rfl (Lds.one Tryz.isAgg5 (((H31.rds (i := 0) rfl).elem eB_len hx32 (by decide)).at_ (k := 0) rfl))) (An rfl (Wp.seq ?_)))
 have H34 := H31.drew
 refine Wp.drawnX [] (fun W => ∃ L', Own w D W ([row A27 9 9 (List.flatMap eB ([113, 98, 116, 108, 118, 101, 109, 97, 110])) 5 1, blk g24 (MsgP p1 A1x0 c1x0 A1x1 c1x1 A1x2 c1x2) 29, blk g21 (MsgP p0 A0x0 c0x0 A0x1 c0x1 A0x2 c0x2) 29] ++ L')) (by kernel_rfl) (by kernel_rfl) (NoP.then (NoP.block (NoP.then (NoP.then (NoP.block (NoP.then NoP.base)))))) ⟨_, H34⟩ ?_
 revert H34
 generalize World.drew w30 = w33
 intro H34
 refine GX.take (v := .int .u8 113) (rs := []) 0 rfl (by kernel_rfl) (fun _ _ => Yl.move rfl) (GX.take (v := .int .u8 113) (rs := []) 4 rfl (by kernel_rfl) (fun _ _ => Yl.move rfl) ?_)
 refine GX.do 1 rfl (by kernel_rfl) (Do.call Tryz.call47 rfl ?_ (fun _ _ k => k))
 refine Calls.body (args := [.pointer (some ⟨g21, 0, none⟩), .int .u8 113]) Tryz.func47 rfl rfl rfl ?_
 show Wp _ _ _ [(0, .pointer (some ⟨g21, 0, none⟩)), (1, .int .u8 113)] _ _
 refine sr (An rfl (Wp.seq (sr (Mn rfl (bo (sr (Kz (.bool true) (An rfl (jt (sr (Mz rfl (Kz (.pointer (some ⟨g21, 0, none⟩)) (Kz (.pointer (some ⟨g21, 6, none⟩)) (An rfl (rt (bR (tR (rs ?_))))))))))))))))))
 refine ⟨.inr ⟨_, H34⟩, ?_⟩
 refine GX.take (v := .pointer (some ⟨g21, 6, none⟩)) (rs := []) 2 rfl (by kernel_rfl) (fun _ _ => yk) (GX.take (v := .int .u64 ((p0.xReq : Nat) : Int)) (rs := []) 3 rfl (by kernel_rfl) (fun _ ⟨_, H9⟩ => Yl.load rfl (Lds.one Tryz.isAgg22 (Cls.of (H9.cls (i := 2) rfl) rfl))) ?_)
 refine GX.do 5 rfl (by kernel_rfl) (Do.call Tryz.call47 rfl ?_ (fun _ _ k => k))
 refine Calls.body (args := [.pointer (some ⟨g24, 0, none⟩), .int .u8 113]) Tryz.func47 rfl rfl rfl ?_
 show Wp _ _ _ [(0, .pointer (some ⟨g24, 0, none⟩)), (1, .int .u8 113)] _ _
 refine sr (An rfl (Wp.seq (sr (Mn rfl (bo (sr (Kz (.bool true) (An rfl (jt (sr (Mz rfl (Kz (.pointer (some ⟨g24, 0, none⟩)) (Kz (.pointer (some ⟨g24, 6, none⟩)) (An rfl (rt (bR (tR (rs ?_))))))))))))))))))
 refine ⟨.inr ⟨_, H34⟩, ?_⟩
 refine GX.take (v := .pointer (some ⟨g24, 6, none⟩)) (rs := []) 6 rfl (by kernel_rfl) (fun _ _ => yk) (GX.take (v := .int .u64 ((p1.xReq : Nat) : Int)) (rs := []) 7 rfl (by kernel_rfl) (fun _ ⟨_, H9⟩ => Yl.load rfl (Lds.one Tryz.isAgg22 (Cls.of (H9.cls (i := 1) rfl) rfl))) (GX.take (v := .bool (decide (¬ (((p0.xReq : Nat) : Int) = ((p1.xReq : Nat) : Int))))) (rs := []) 8 rfl (by kernel_rfl) (fun _ _ => Yl.bool (e := !(decide (((p0.xReq : Nat) : Int) = ((p1.xReq : Nat) : Int)))) yk decide_not.symm) (GX.done (by kernel_rfl) (Fin.then ?_))))
 by_cases h35 : ((p0.xReq : Nat) : Int) = ((p1.xReq : Nat) : Int)
 refine jF (dF (not_not_intro h35)) (Wp.skip (bN (Fin.then (Wp.region (Kz (.int .i64 1) (Mz rfl (WL.nil (Fin.again [(10, .int .i64 1), (9, .int .i64 9), (8, .slice A27 9 9), (4, .bool false), (3, .pointer (some ⟨g24, 0, none⟩)), (2, .pointer (some ⟨g21, 0, none⟩))] ⟨rfl, rfl, rfl, rfl, rfl, rfl, trivial⟩ (sr (Kz (.bool true) (nt (Wp.seq (jt (sk (Wp.seq (bo (sr ?_)))))))))))))))))
 have hx36 : ([113, 98, 116, 108, 118, 101, 109, 97, 110] : List UInt8)[1]? = some 98 := rfl
 refine fw (.pointer (some ⟨ab A27, ao A27 + 1 * 1, none⟩)) (Yl.indexAddr (El31) rfl rfl ((H34.rds (i := 0) rfl).addr (i := 1) (by omega)) (by omega)) (fw (.int .u8 98) (Yl.load rfl (Lds.one Tryz.isAgg5 (((H34.rds (i := 0) rfl).elem eB_len hx36 (by decide)).at_ (k := 0) rfl))) (An rfl (Wp.seq ?_)))
 have H38 := H34.drew
 refine Wp.drawnX [] (fun W => ∃ L', Own w D W ([row A27 9 9 (List.flatMap eB ([113, 98, 116, 108, 118, 101, 109, 97, 110])) 5 1, blk g24 (MsgP p1 A1x0 c1x0 A1x1 c1x1 A1x2 c1x2) 29, blk g21 (MsgP p0 A0x0 c0x0 A0x1 c0x1 A0x2 c0x2) 29] ++ L')) (by kernel_rfl) (by kernel_rfl) (NoP.then (NoP.block (NoP.then (NoP.then (NoP.block (NoP.then NoP.base)))))) ⟨_, H38⟩ ?_
 revert H38
 generalize World.drew w33 = w37
 intro H38
 refine GX.take (v := .int .u8 98) (rs := []) 0 rfl (by kernel_rfl) (fun _ _ => Yl.move rfl) (GX.take (v := .int .u8 98) (rs := []) 4 rfl (by kernel_rfl) (fun _ _ => Yl.move rfl) ?_)
 refine GX.do 1 rfl (by kernel_rfl) (Do.call Tryz.call47 rfl ?_ (fun _ _ k => k))
 refine Calls.body (args := [.pointer (some ⟨g21, 0, none⟩), .int .u8 98]) Tryz.func47 rfl rfl rfl ?_
 show Wp _ _ _ [(0, .pointer (some ⟨g21, 0, none⟩)), (1, .int .u8 98)] _ _
 refine sr (An rfl (Wp.seq (sr (Mn rfl (bo (sr (Kz (.bool false) (An rfl (jf (sr (Kz (.bool true) (An rfl (jt (sr (Mz rfl (Kz (.pointer (some ⟨g21, 0, none⟩)) (Kz (.pointer (some ⟨g21, 7, none⟩)) (An rfl (rt (bR (tR (rs ?_))))))))))))))))))))))
 refine ⟨.inr ⟨_, H38⟩, ?_⟩
 refine GX.take (v := .pointer (some ⟨g21, 7, none⟩)) (rs := []) 2 rfl (by kernel_rfl) (fun _ _ => yk) (GX.take (v := .int .u64 ((p0.xBoot : Nat) : Int)) (rs := []) 3 rfl (by kernel_rfl) (fun _ ⟨_, H9⟩ => Yl.load rfl (Lds.one Tryz.isAgg22 (Cls.of (H9.cls (i := 2) rfl) rfl))) ?_)
 refine GX.do 5 rfl (by kernel_rfl) (Do.call Tryz.call47 rfl ?_ (fun _ _ k => k))
 refine Calls.body (args := [.pointer (some ⟨g24, 0, none⟩), .int .u8 98]) Tryz.func47 rfl rfl rfl ?_
 show Wp _ _ _ [(0, .pointer (some ⟨g24, 0, none⟩)), (1, .int .u8 98)] _ _
 refine sr (An rfl (Wp.seq (sr (Mn rfl (bo (sr (Kz (.bool false) (An rfl (jf (sr (Kz (.bool true) (An rfl (jt (sr (Mz rfl (Kz (.pointer (some ⟨g24, 0, none⟩)) (Kz (.pointer (some ⟨g24, 7, none⟩)) (An rfl (rt (bR (tR (rs ?_))))))))))))))))))))))
 refine ⟨.inr ⟨_, H38⟩, ?_⟩
 refine GX.take (v := .pointer (some ⟨g24, 7, none⟩)) (rs := []) 6 rfl (by kernel_rfl) (fun _ _ => yk) (GX.take (v := .int .u64 ((p1.xBoot : Nat) : Int)) (rs := []) 7 rfl (by kernel_rfl) (fun _ ⟨_, H9⟩ => Yl.load rfl (Lds.one Tryz.isAgg22 (Cls.of (H9.cls (i := 1) rfl) rfl))) (GX.take (v := .bool (decide (¬ (((p0.xBoot : Nat) : Int) = ((p1.xBoot : Nat) : Int))))) (rs := []) 8 rfl (by kernel_rfl) (fun _ _ => Yl.bool (e := !(decide (((p0.xBoot : Nat) : Int) = ((p1.xBoot : Nat) : Int)))) yk decide_not.symm) (GX.done (by kernel_rfl) (Fin.then ?_))))
 by_cases h39 : ((p0.xBoot : Nat) : Int) = ((p1.xBoot : Nat) : Int)
 refine jF (dF (not_not_intro h39)) (Wp.skip (bN (Fin.then (Wp.region (Kz (.int .i64 2) (Mz rfl (WL.nil (Fin.again [(10, .int .i64 2), (9, .int .i64 9), (8, .slice A27 9 9), (4, .bool false), (3, .pointer (some ⟨g24, 0, none⟩)), (2, .pointer (some ⟨g21, 0, none⟩))] ⟨rfl, rfl, rfl, rfl, rfl, rfl, trivial⟩ (sr (Kz (.bool true) (nt (Wp.seq (jt (sk (Wp.seq (bo (sr ?_)))))))))))))))))
 have hx40 : ([113, 98, 116, 108, 118, 101, 109, 97, 110] : List UInt8)[2]? = some 116 := rfl
 refine fw (.pointer (some ⟨ab A27, ao A27 + 2 * 1, none⟩)) (Yl.indexAddr (El31) rfl rfl ((H38.rds (i := 0) rfl).addr (i := 2) (by omega)) (by omega)) (fw (.int .u8 116) (Yl.load rfl (Lds.one Tryz.isAgg5 (((H38.rds (i := 0) rfl).elem eB_len hx40 (by decide)).at_ (k := 0) rfl))) (An rfl (Wp.seq ?_)))
 have H42 := H38.drew
 refine Wp.drawnX [] (fun W => ∃ L', Own w D W ([row A27 9 9 (List.flatMap eB ([113, 98, 116, 108, 118, 101, 109, 97, 110])) 5 1, blk g24 (MsgP p1 A1x0 c1x0 A1x1 c1x1 A1x2 c1x2) 29, blk g21 (MsgP p0 A0x0 c0x0 A0x1 c0x1 A0x2 c0x2) 29] ++ L')) (by kernel_rfl) (by kernel_rfl) (NoP.then (NoP.block (NoP.then (NoP.then (NoP.block (NoP.then NoP.base)))))) ⟨_, H42⟩ ?_
 revert H42
 generalize World.drew w37 = w41
 intro H42
 refine GX.take (v := .int .u8 116) (rs := []) 0 rfl (by kernel_rfl) (fun _ _ => Yl.move rfl) (GX.take (v := .int .u8 116) (rs := []) 4 rfl (by kernel_rfl) (fun _ _ => Yl.move rfl) ?_)
 refine GX.do 1 rfl (by kernel_rfl) (Do.call Tryz.call47 rfl ?_ (fun _ _ k => k))
 refine Calls.body (args := [.pointer (some ⟨g21, 0, none⟩), .int .u8 116]) Tryz.func47 rfl rfl rfl ?_
 show Wp _ _ _ [(0, .pointer (some ⟨g21, 0, none⟩)), (1, .int .u8 116)] _ _
 refine sr (An rfl (Wp.seq (sr (Mn rfl (bo (sr (Kz (.bool false) (An rfl (jf (sr (Kz (.bool false) (An rfl (jf (sr (Kz (.bool true) (An rfl (jt (sr (Mz rfl (Kz (.pointer (some ⟨g21, 0, none⟩)) (Kz (.pointer (some ⟨g21, 8, none⟩)) (Az rfl (WL.nil ?_)))))))))))))))))))))))
 refine Fin.then (rt (bR (tR (rs ?_))))
 refine ⟨.inr ⟨_, H42⟩, ?_⟩
 refine GX.take (v := .pointer (some ⟨g21, 8, none⟩)) (rs := []) 2 rfl (by kernel_rfl) (fun _ _ => yk) (GX.take (v := .int .u64 ((p0.xTxn : Nat) : Int)) (rs := []) 3 rfl (by kernel_rfl) (fun _ ⟨_, H9⟩ => Yl.load rfl (Lds.one Tryz.isAgg22 (Cls.of (H9.cls (i := 2) rfl) rfl))) ?_)
 refine GX.do 5 rfl (by kernel_rfl) (Do.call Tryz.call47 rfl ?_ (fun _ _ k => k))
 refine Calls.body (args := [.pointer (some ⟨g24, 0, none⟩), .int .u8 116]) Tryz.func47 rfl rfl rfl ?_
 show Wp _ _ _ [(0, .pointer (some ⟨g24, 0, none⟩)), (1, .int .u8 116)] _ _
 refine sr (An rfl (Wp.seq (sr (Mn rfl (bo (sr (Kz (.bool false) (An rfl (jf (sr (Kz (.bool false) (An rfl (jf (sr (Kz (.bool true) (An rfl (jt (sr (Mz rfl (Kz (.pointer (some ⟨g24, 0, none⟩)) (Kz (.pointer (some ⟨g24, 8, none⟩)) (Az rfl (WL.nil ?_)))))))))))))))))))))))
 refine Fin.then (rt (bR (tR (rs ?_))))
 refine ⟨.inr ⟨_, H42⟩, ?_⟩
 refine GX.take (v := .pointer (some ⟨g24, 8, none⟩)) (rs := []) 6 rfl (by kernel_rfl) (fun _ _ => yk) (GX.take (v := .int .u64 ((p1.xTxn : Nat) : Int)) (rs := []) 7 rfl (by kernel_rfl) (fun _ ⟨_, H9⟩ => Yl.load rfl (Lds.one Tryz.isAgg22 (Cls.of (H9.cls (i := 1) rfl) rfl))) (GX.take (v := .bool (decide (¬ (((p0.xTxn : Nat) : Int) = ((p1.xTxn : Nat) : Int))))) (rs := []) 8 rfl (by kernel_rfl) (fun _ _ => Yl.bool (e := !(decide (((p0.xTxn : Nat) : Int) = ((p1.xTxn : Nat) : Int)))) yk decide_not.symm) (GX.done (by kernel_rfl) (Fin.then ?_))))
 by_cases h43 : ((p0.xTxn : Nat) : Int) = ((p1.xTxn : Nat) : Int)
 refine jF (dF (not_not_intro h43)) (Wp.skip (bN (Fin.then (Wp.region (Kz (.int .i64 3) (Mz rfl (WL.nil (Fin.again [(10, .int .i64 3), (9, .int .i64 9), (8, .slice A27 9 9), (4, .bool false), (3, .pointer (some ⟨g24, 0, none⟩)), (2, .pointer (some ⟨g21, 0, none⟩))] ⟨rfl, rfl, rfl, rfl, rfl, rfl, trivial⟩ (sr (Kz (.bool true) (nt (Wp.seq (jt (sk (Wp.seq (bo (sr ?_)))))))))))))))))
 have hx44 : ([113, 98, 116, 108, 118, 101, 109, 97, 110] : List UInt8)[3]? = some 108 := rfl
 refine fw (.pointer (some ⟨ab A27, ao A27 + 3 * 1, none⟩)) (Yl.indexAddr (El31) rfl rfl ((H42.rds (i := 0) rfl).addr (i := 3) (by omega)) (by omega)) (fw (.int .u8 108) (Yl.load rfl (Lds.one Tryz.isAgg5 (((H42.rds (i := 0) rfl).elem eB_len hx44 (by decide)).at_ (k := 0) rfl))) (An rfl (Wp.seq ?_)))
 have H46 := H42.drew
 refine Wp.drawnX [] (fun W => ∃ L', Own w D W ([row A27 9 9 (List.flatMap eB ([113, 98, 116, 108, 118, 101, 109, 97, 110])) 5 1, blk g24 (MsgP p1 A1x0 c1x0 A1x1 c1x1 A1x2 c1x2) 29, blk g21 (MsgP p0 A0x0 c0x0 A0x1 c0x1 A0x2 c0x2) 29] ++ L')) (by kernel_rfl) (by kernel_rfl) (NoP.then (NoP.block (NoP.then (NoP.then (NoP.block (NoP.then NoP.base)))))) ⟨_, H46⟩ ?_
 revert H46
 generalize World.drew w41 = w45
 intro H46
 refine GX.take (v := .int .u8 108) (rs := []) 0 rfl (by kernel_rfl) (fun _ _ => Yl.move rfl) (GX.take (v := .int .u8 108) (rs := []) 4 rfl (by kernel_rfl) (fun _ _ => Yl.move rfl) ?_)
 refine GX.do 1 rfl (by kernel_rfl) (Do.call Tryz.call47 rfl ?_ (fun _ _ k => k))
 refine Calls.body (args := [.pointer (some ⟨g21, 0, none⟩), .int .u8 108]) Tryz.func47 rfl rfl rfl ?_
 show Wp _ _ _ [(0, .pointer (some ⟨g21, 0, none⟩)), (1, .int .u8 108)] _ _
 refine sr (An rfl (Wp.seq (sr (Mn rfl (bo (sr (Kz (.bool false) (An rfl (jf (sr (Kz (.bool false) (An rfl (jf (sr (Kz (.bool false) (An rfl (jf (sr (Kz (.bool true) (An rfl (jt ?_)))))))))))))))))))))
 refine sr (Mz rfl (Kz (.pointer (some ⟨g21, 0, none⟩)) (Kz (.pointer (some ⟨g21, 9, none⟩)) (An rfl (rt (bR (tR (rs ?_))))))))
 refine ⟨.inr ⟨_, H46⟩, ?_⟩
 refine GX.take (v := .pointer (some ⟨g21, 9, none⟩)) (rs := []) 2 rfl (by kernel_rfl) (fun _ _ => yk) (GX.take (v := .int .u64 ((p0.xLow : Nat) : Int)) (rs := []) 3 rfl (by kernel_rfl) (fun _ ⟨_, H9⟩ => Yl.load rfl (Lds.one Tryz.isAgg22 (Cls.of (H9.cls (i := 2) rfl) rfl))) ?_)
 refine GX.do 5 rfl (by kernel_rfl) (Do.call Tryz.call47 rfl ?_ (fun _ _ k => k))
 refine Calls.body (args := [.pointer (some ⟨g24, 0, none⟩), .int .u8 108]) Tryz.func47 rfl rfl rfl ?_
 show Wp _ _ _ [(0, .pointer (some ⟨g24, 0, none⟩)), (1, .int .u8 108)] _ _
 refine sr (An rfl (Wp.seq (sr (Mn rfl (bo (sr (Kz (.bool false) (An rfl (jf (sr (Kz (.bool false) (An rfl (jf (sr (Kz (.bool false) (An rfl (jf (sr (Kz (.bool true) (An rfl (jt ?_)))))))))))))))))))))
 refine sr (Mz rfl (Kz (.pointer (some ⟨g24, 0, none⟩)) (Kz (.pointer (some ⟨g24, 9, none⟩)) (An rfl (rt (bR (tR (rs ?_))))))))
 refine ⟨.inr ⟨_, H46⟩, ?_⟩
 refine GX.take (v := .pointer (some ⟨g24, 9, none⟩)) (rs := []) 6 rfl (by kernel_rfl) (fun _ _ => yk) (GX.take (v := .int .u64 ((p1.xLow : Nat) : Int)) (rs := []) 7 rfl (by kernel_rfl) (fun _ ⟨_, H9⟩ => Yl.load rfl (Lds.one Tryz.isAgg22 (Cls.of (H9.cls (i := 1) rfl) rfl))) (GX.take (v := .bool (decide (¬ (((p0.xLow : Nat) : Int) = ((p1.xLow : Nat) : Int))))) (rs := []) 8 rfl (by kernel_rfl) (fun _ _ => Yl.bool (e := !(decide (((p0.xLow : Nat) : Int) = ((p1.xLow : Nat) : Int)))) yk decide_not.symm) (GX.done (by kernel_rfl) (Fin.then ?_))))
 by_cases h47 : ((p0.xLow : Nat) : Int) = ((p1.xLow : Nat) : Int)
 refine jF (dF (not_not_intro h47)) (Wp.skip (bN (Fin.then (Wp.region (Kz (.int .i64 4) (Mz rfl (WL.nil (Fin.again [(10, .int .i64 4), (9, .int .i64 9), (8, .slice A27 9 9), (4, .bool false), (3, .pointer (some ⟨g24, 0, none⟩)), (2, .pointer (some ⟨g21, 0, none⟩))] ⟨rfl, rfl, rfl, rfl, rfl, rfl, trivial⟩ (sr (Kz (.bool true) (nt (Wp.seq (jt (sk (Wp.seq (bo (sr ?_)))))))))))))))))
 have hx48 : ([113, 98, 116, 108, 118, 101, 109, 97, 110] : List UInt8)[4]? = some 118 := rfl
 refine fw (.pointer (some ⟨ab A27, ao A27 + 4 * 1, none⟩)) (Yl.indexAddr (El31) rfl rfl ((H46.rds (i := 0) rfl).addr (i := 4) (by omega)) (by omega)) (fw (.int .u8 118) (Yl.load rfl (Lds.one Tryz.isAgg5 (((H46.rds (i := 0) rfl).elem eB_len hx48 (by decide)).at_ (k := 0) rfl))) (An rfl (Wp.seq ?_)))
 have H50 := H46.drew
 refine Wp.drawnX [] (fun W => ∃ L', Own w D W ([row A27 9 9 (List.flatMap eB ([113, 98, 116, 108, 118, 101, 109, 97, 110])) 5 1, blk g24 (MsgP p1 A1x0 c1x0 A1x1 c1x1 A1x2 c1x2) 29, blk g21 (MsgP p0 A0x0 c0x0 A0x1 c0x1 A0x2 c0x2) 29] ++ L')) (by kernel_rfl) (by kernel_rfl) (NoP.then (NoP.block (NoP.then (NoP.then (NoP.block (NoP.then NoP.base)))))) ⟨_, H50⟩ ?_
 revert H50
 generalize World.drew w45 = w49
 intro H50
 refine GX.take (v := .int .u8 118) (rs := []) 0 rfl (by kernel_rfl) (fun _ _ => Yl.move rfl) (GX.take (v := .int .u8 118) (rs := []) 4 rfl (by kernel_rfl) (fun _ _ => Yl.move rfl) ?_)
 refine GX.do 1 rfl (by kernel_rfl) (Do.call Tryz.call47 rfl ?_ (fun _ _ k => k))
 refine Calls.body (args := [.pointer (some ⟨g21, 0, none⟩), .int .u8 118]) Tryz.func47 rfl rfl rfl ?_
 show Wp _ _ _ [(0, .pointer (some ⟨g21, 0, none⟩)), (1, .int .u8 118)] _ _
 refine sr (An rfl (Wp.seq (sr (Mn rfl (bo (sr (Kz (.bool false) (An rfl (jf (sr (Kz (.bool false) (An rfl (jf (sr (Kz (.bool false) (An rfl (jf (sr (Kz (.bool false) (An rfl (jf ?_)))))))))))))))))))))
 refine sr (Kz (.bool true) (An rfl (jt (sr (Mz rfl (Kz (.pointer (some ⟨g21, 0, none⟩)) (Kz (.pointer (some ⟨g21, 10, none⟩)) (An rfl (rt (bR (tR (rs ?_))))))))))))
 refine ⟨.inr ⟨_, H50⟩, ?_⟩
 refine GX.take (v := .pointer (some ⟨g21, 10, none⟩)) (rs := []) 2 rfl (by kernel_rfl) (fun _ _ => yk) (GX.take (v := .int .u64 ((p0.xVer : Nat) : Int)) (rs := []) 3 rfl (by kernel_rfl) (fun _ ⟨_, H9⟩ => Yl.load rfl (Lds.one Tryz.isAgg22 (Cls.of (H9.cls (i := 2) rfl) rfl))) ?_)
 refine GX.do 5 rfl (by kernel_rfl) (Do.call Tryz.call47 rfl ?_ (fun _ _ k => k))
 refine Calls.body (args := [.pointer (some ⟨g24, 0, none⟩), .int .u8 118]) Tryz.func47 rfl rfl rfl ?_
 show Wp _ _ _ [(0, .pointer (some ⟨g24, 0, none⟩)), (1, .int .u8 118)] _ _
 refine sr (An rfl (Wp.seq (sr (Mn rfl (bo (sr (Kz (.bool false) (An rfl (jf (sr (Kz (.bool false) (An rfl (jf (sr (Kz (.bool false) (An rfl (jf (sr (Kz (.bool false) (An rfl (jf ?_)))))))))))))))))))))
 refine sr (Kz (.bool true) (An rfl (jt (sr (Mz rfl (Kz (.pointer (some ⟨g24, 0, none⟩)) (Kz (.pointer (some ⟨g24, 10, none⟩)) (An rfl (rt (bR (tR (rs ?_))))))))))))
 refine ⟨.inr ⟨_, H50⟩, ?_⟩
 refine GX.take (v := .pointer (some ⟨g24, 10, none⟩)) (rs := []) 6 rfl (by kernel_rfl) (fun _ _ => yk) (GX.take (v := .int .u64 ((p1.xVer : Nat) : Int)) (rs := []) 7 rfl (by kernel_rfl) (fun _ ⟨_, H9⟩ => Yl.load rfl (Lds.one Tryz.isAgg22 (Cls.of (H9.cls (i := 1) rfl) rfl))) (GX.take (v := .bool (decide (¬ (((p0.xVer : Nat) : Int) = ((p1.xVer : Nat) : Int))))) (rs := []) 8 rfl (by kernel_rfl) (fun _ _ => Yl.bool (e := !(decide (((p0.xVer : Nat) : Int) = ((p1.xVer : Nat) : Int)))) yk decide_not.symm) (GX.done (by kernel_rfl) (Fin.then ?_))))
 by_cases h51 : ((p0.xVer : Nat) : Int) = ((p1.xVer : Nat) : Int)
 refine jF (dF (not_not_intro h51)) (Wp.skip (bN (Fin.then (Wp.region (Kz (.int .i64 5) (Mz rfl (WL.nil (Fin.again [(10, .int .i64 5), (9, .int .i64 9), (8, .slice A27 9 9), (4, .bool false), (3, .pointer (some ⟨g24, 0, none⟩)), (2, .pointer (some ⟨g21, 0, none⟩))] ⟨rfl, rfl, rfl, rfl, rfl, rfl, trivial⟩ (sr (Kz (.bool true) (nt (Wp.seq (jt (sk (Wp.seq (bo (sr ?_)))))))))))))))))
 have hx52 : ([113, 98, 116, 108, 118, 101, 109, 97, 110] : List UInt8)[5]? = some 101 := rfl
 refine fw (.pointer (some ⟨ab A27, ao A27 + 5 * 1, none⟩)) (Yl.indexAddr (El31) rfl rfl ((H50.rds (i := 0) rfl).addr (i := 5) (by omega)) (by omega)) (fw (.int .u8 101) (Yl.load rfl (Lds.one Tryz.isAgg5 (((H50.rds (i := 0) rfl).elem eB_len hx52 (by decide)).at_ (k := 0) rfl))) (An rfl (Wp.seq ?_)))
 have H54 := H50.drew
 refine Wp.drawnX [] (fun W => ∃ L', Own w D W ([row A27 9 9 (List.flatMap eB ([113, 98, 116, 108, 118, 101, 109, 97, 110])) 5 1, blk g24 (MsgP p1 A1x0 c1x0 A1x1 c1x1 A1x2 c1x2) 29, blk g21 (MsgP p0 A0x0 c0x0 A0x1 c0x1 A0x2 c0x2) 29] ++ L')) (by kernel_rfl) (by kernel_rfl) (NoP.then (NoP.block (NoP.then (NoP.then (NoP.block (NoP.then NoP.base)))))) ⟨_, H54⟩ ?_
 revert H54
 generalize World.drew w49 = w53
 intro H54
 refine GX.take (v := .int .u8 101) (rs := []) 0 rfl (by kernel_rfl) (fun _ _ => Yl.move rfl) (GX.take (v := .int .u8 101) (rs := []) 4 rfl (by kernel_rfl) (fun _ _ => Yl.move rfl) ?_)
 refine GX.do 1 rfl (by kernel_rfl) (Do.call Tryz.call47 rfl ?_ (fun _ _ k => k))
 refine Calls.body (args := [.pointer (some ⟨g21, 0, none⟩), .int .u8 101]) Tryz.func47 rfl rfl rfl ?_
 show Wp _ _ _ [(0, .pointer (some ⟨g21, 0, none⟩)), (1, .int .u8 101)] _ _
 refine sr (An rfl (Wp.seq (sr (Mn rfl (bo (sr (Kz (.bool false) (An rfl (jf (sr (Kz (.bool false) (An rfl (jf (sr (Kz (.bool false) (An rfl (jf (sr (Kz (.bool false) (An rfl (jf ?_)))))))))))))))))))))
 refine sr (Kz (.bool false) (An rfl (jf (sr (Kz (.bool true) (An rfl (jt (sr (Mz rfl (Kz (.pointer (some ⟨g21, 0, none⟩)) (Kz (.pointer (some ⟨g21, 11, none⟩)) (An rfl (rt (bR (tR (rs ?_))))))))))))))))
 refine ⟨.inr ⟨_, H54⟩, ?_⟩
 refine GX.take (v := .pointer (some ⟨g21, 11, none⟩)) (rs := []) 2 rfl (by kernel_rfl) (fun _ _ => yk) (GX.take (v := .int .u64 ((p0.xEpoch : Nat) : Int)) (rs := []) 3 rfl (by kernel_rfl) (fun _ ⟨_, H9⟩ => Yl.load rfl (Lds.one Tryz.isAgg22 (Cls.of (H9.cls (i := 2) rfl) rfl))) ?_)
 refine GX.do 5 rfl (by kernel_rfl) (Do.call Tryz.call47 rfl ?_ (fun _ _ k => k))
 refine Calls.body (args := [.pointer (some ⟨g24, 0, none⟩), .int .u8 101]) Tryz.func47 rfl rfl rfl ?_
 show Wp _ _ _ [(0, .pointer (some ⟨g24, 0, none⟩)), (1, .int .u8 101)] _ _
 refine sr (An rfl (Wp.seq (sr (Mn rfl (bo (sr (Kz (.bool false) (An rfl (jf (sr (Kz (.bool false) (An rfl (jf (sr (Kz (.bool false) (An rfl (jf (sr (Kz (.bool false) (An rfl (jf ?_)))))))))))))))))))))
 refine sr (Kz (.bool false) (An rfl (jf (sr (Kz (.bool true) (An rfl (jt (sr (Mz rfl (Kz (.pointer (some ⟨g24, 0, none⟩)) (Kz (.pointer (some ⟨g24, 11, none⟩)) (An rfl (rt (bR (tR (rs ?_))))))))))))))))
 refine ⟨.inr ⟨_, H54⟩, ?_⟩
 refine GX.take (v := .pointer (some ⟨g24, 11, none⟩)) (rs := []) 6 rfl (by kernel_rfl) (fun _ _ => yk) (GX.take (v := .int .u64 ((p1.xEpoch : Nat) : Int)) (rs := []) 7 rfl (by kernel_rfl) (fun _ ⟨_, H9⟩ => Yl.load rfl (Lds.one Tryz.isAgg22 (Cls.of (H9.cls (i := 1) rfl) rfl))) (GX.take (v := .bool (decide (¬ (((p0.xEpoch : Nat) : Int) = ((p1.xEpoch : Nat) : Int))))) (rs := []) 8 rfl (by kernel_rfl) (fun _ _ => Yl.bool (e := !(decide (((p0.xEpoch : Nat) : Int) = ((p1.xEpoch : Nat) : Int)))) yk decide_not.symm) (GX.done (by kernel_rfl) (Fin.then ?_))))
 by_cases h55 : ((p0.xEpoch : Nat) : Int) = ((p1.xEpoch : Nat) : Int)
 refine jF (dF (not_not_intro h55)) (Wp.skip (bN (Fin.then (Wp.region (Kz (.int .i64 6) (Mz rfl (WL.nil (Fin.again [(10, .int .i64 6), (9, .int .i64 9), (8, .slice A27 9 9), (4, .bool false), (3, .pointer (some ⟨g24, 0, none⟩)), (2, .pointer (some ⟨g21, 0, none⟩))] ⟨rfl, rfl, rfl, rfl, rfl, rfl, trivial⟩ (sr (Kz (.bool true) (nt (Wp.seq (jt (sk (Wp.seq (bo (sr ?_)))))))))))))))))
 have hx56 : ([113, 98, 116, 108, 118, 101, 109, 97, 110] : List UInt8)[6]? = some 109 := rfl
 refine fw (.pointer (some ⟨ab A27, ao A27 + 6 * 1, none⟩)) (Yl.indexAddr (El31) rfl rfl ((H54.rds (i := 0) rfl).addr (i := 6) (by omega)) (by omega)) (fw (.int .u8 109) (Yl.load rfl (Lds.one Tryz.isAgg5 (((H54.rds (i := 0) rfl).elem eB_len hx56 (by decide)).at_ (k := 0) rfl))) (An rfl (Wp.seq ?_)))
 have H58 := H54.drew
 refine Wp.drawnX [] (fun W => ∃ L', Own w D W ([row A27 9 9 (List.flatMap eB ([113, 98, 116, 108, 118, 101, 109, 97, 110])) 5 1, blk g24 (MsgP p1 A1x0 c1x0 A1x1 c1x1 A1x2 c1x2) 29, blk g21 (MsgP p0 A0x0 c0x0 A0x1 c0x1 A0x2 c0x2) 29] ++ L')) (by kernel_rfl) (by kernel_rfl) (NoP.then (NoP.block (NoP.then (NoP.then (NoP.block (NoP.then NoP.base)))))) ⟨_, H58⟩ ?_
 revert H58
 generalize World.drew w53 = w57
 intro H58
 refine GX.take (v := .int .u8 109) (rs := []) 0 rfl (by kernel_rfl) (fun _ _ => Yl.move rfl) (GX.take (v := .int .u8 109) (rs := []) 4 rfl (by kernel_rfl) (fun _ _ => Yl.move rfl) ?_)
 refine GX.do 1 rfl (by kernel_rfl) (Do.call Tryz.call47 rfl ?_ (fun _ _ k => k))
 refine Calls.body (args := [.pointer (some ⟨g21, 0, none⟩), .int .u8 109]) Tryz.func47 rfl rfl rfl ?_
 show Wp _ _ _ [(0, .pointer (some ⟨g21, 0, none⟩)), (1, .int .u8 109)] _ _
 refine sr (An rfl (Wp.seq (sr (Mn rfl (bo (sr (Kz (.bool false) (An rfl (jf (sr (Kz (.bool false) (An rfl (jf (sr (Kz (.bool false) (An rfl (jf (sr (Kz (.bool false) (An rfl (jf ?_)))))))))))))))))))))
 refine sr (Kz (.bool false) (An rfl (jf (sr (Kz (.bool false) (An rfl (jf (sr (Kz (.bool true) (An rfl (jt (sr (Mz rfl (Kz (.pointer (some ⟨g21, 0, none⟩)) (Kz (.pointer (some ⟨g21, 12, none⟩)) (An rfl (rt (bR (tR (rs ?_))))))))))))))))))))
 refine ⟨.inr ⟨_, H58⟩, ?_⟩
 refine GX.take (v := .pointer (some ⟨g21, 12, none⟩)) (rs := []) 2 rfl (by kernel_rfl) (fun _ _ => yk) (GX.take (v := .int .u64 ((p0.xMove : Nat) : Int)) (rs := []) 3 rfl (by kernel_rfl) (fun _ ⟨_, H9⟩ => Yl.load rfl (Lds.one Tryz.isAgg22 (Cls.of (H9.cls (i := 2) rfl) rfl))) ?_)
 refine GX.do 5 rfl (by kernel_rfl) (Do.call Tryz.call47 rfl ?_ (fun _ _ k => k))
 refine Calls.body (args := [.pointer (some ⟨g24, 0, none⟩), .int .u8 109]) Tryz.func47 rfl rfl rfl ?_
 show Wp _ _ _ [(0, .pointer (some ⟨g24, 0, none⟩)), (1, .int .u8 109)] _ _
 refine sr (An rfl (Wp.seq (sr (Mn rfl (bo (sr (Kz (.bool false) (An rfl (jf (sr (Kz (.bool false) (An rfl (jf (sr (Kz (.bool false) (An rfl (jf (sr (Kz (.bool false) (An rfl (jf ?_)))))))))))))))))))))
 refine sr (Kz (.bool false) (An rfl (jf (sr (Kz (.bool false) (An rfl (jf (sr (Kz (.bool true) (An rfl (jt (sr (Mz rfl (Kz (.pointer (some ⟨g24, 0, none⟩)) (Kz (.pointer (some ⟨g24, 12, none⟩)) (An rfl (rt (bR (tR (rs ?_))))))))))))))))))))
 refine ⟨.inr ⟨_, H58⟩, ?_⟩
 refine GX.take (v := .pointer (some ⟨g24, 12, none⟩)) (rs := []) 6 rfl (by kernel_rfl) (fun _ _ => yk) (GX.take (v := .int .u64 ((p1.xMove : Nat) : Int)) (rs := []) 7 rfl (by kernel_rfl) (fun _ ⟨_, H9⟩ => Yl.load rfl (Lds.one Tryz.isAgg22 (Cls.of (H9.cls (i := 1) rfl) rfl))) (GX.take (v := .bool (decide (¬ (((p0.xMove : Nat) : Int) = ((p1.xMove : Nat) : Int))))) (rs := []) 8 rfl (by kernel_rfl) (fun _ _ => Yl.bool (e := !(decide (((p0.xMove : Nat) : Int) = ((p1.xMove : Nat) : Int)))) yk decide_not.symm) (GX.done (by kernel_rfl) (Fin.then ?_))))
 by_cases h59 : ((p0.xMove : Nat) : Int) = ((p1.xMove : Nat) : Int)
 refine jF (dF (not_not_intro h59)) (Wp.skip (bN (Fin.then (Wp.region (Kz (.int .i64 7) (Mz rfl (WL.nil (Fin.again [(10, .int .i64 7), (9, .int .i64 9), (8, .slice A27 9 9), (4, .bool false), (3, .pointer (some ⟨g24, 0, none⟩)), (2, .pointer (some ⟨g21, 0, none⟩))] ⟨rfl, rfl, rfl, rfl, rfl, rfl, trivial⟩ (sr (Kz (.bool true) (nt (Wp.seq (jt (sk (Wp.seq (bo (sr ?_)))))))))))))))))
 have hx60 : ([113, 98, 116, 108, 118, 101, 109, 97, 110] : List UInt8)[7]? = some 97 := rfl
 refine fw (.pointer (some ⟨ab A27, ao A27 + 7 * 1, none⟩)) (Yl.indexAddr (El31) rfl rfl ((H58.rds (i := 0) rfl).addr (i := 7) (by omega)) (by omega)) (fw (.int .u8 97) (Yl.load rfl (Lds.one Tryz.isAgg5 (((H58.rds (i := 0) rfl).elem eB_len hx60 (by decide)).at_ (k := 0) rfl))) (An rfl (Wp.seq ?_)))
 have H62 := H58.drew
 refine Wp.drawnX [] (fun W => ∃ L', Own w D W ([row A27 9 9 (List.flatMap eB ([113, 98, 116, 108, 118, 101, 109, 97, 110])) 5 1, blk g24 (MsgP p1 A1x0 c1x0 A1x1 c1x1 A1x2 c1x2) 29, blk g21 (MsgP p0 A0x0 c0x0 A0x1 c0x1 A0x2 c0x2) 29] ++ L')) (by kernel_rfl) (by kernel_rfl) (NoP.then (NoP.block (NoP.then (NoP.then (NoP.block (NoP.then NoP.base)))))) ⟨_, H62⟩ ?_
 revert H62
 generalize World.drew w57 = w61
 intro H62
 refine GX.take (v := .int .u8 97) (rs := []) 0 rfl (by kernel_rfl) (fun _ _ => Yl.move rfl) (GX.take (v := .int .u8 97) (rs := []) 4 rfl (by kernel_rfl) (fun _ _ => Yl.move rfl) ?_)
 refine GX.do 1 rfl (by kernel_rfl) (Do.call Tryz.call47 rfl ?_ (fun _ _ k => k))
 refine Calls.body (args := [.pointer (some ⟨g21, 0, none⟩), .int .u8 97]) Tryz.func47 rfl rfl rfl ?_
 show Wp _ _ _ [(0, .pointer (some ⟨g21, 0, none⟩)), (1, .int .u8 97)] _ _
 refine sr (An rfl (Wp.seq (sr (Mn rfl (bo (sr (Kz (.bool false) (An rfl (jf (sr (Kz (.bool false) (An rfl (jf (sr (Kz (.bool false) (An rfl (jf (sr (Kz (.bool false) (An rfl (jf ?_)))))))))))))))))))))
 refine sr (Kz (.bool false) (An rfl (jf (sr (Kz (.bool false) (An rfl (jf (sr (Kz (.bool false) (An rfl (jf (sr (Kz (.bool true) (An rfl (jt (sr (Mz rfl (Kz (.pointer (some ⟨g21, 0, none⟩)) (Kz (.pointer (some ⟨g21, 13, none⟩)) (An rfl (rt (bR (tR (rs ?_))))))))))))))))))))))))
 refine ⟨.inr ⟨_, H62⟩, ?_⟩
 refine GX.take (v := .pointer (some ⟨g21, 13, none⟩)) (rs := []) 2 rfl (by kernel_rfl) (fun _ _ => yk) (GX.take (v := .int .u64 ((p0.xAttempt : Nat) : Int)) (rs := []) 3 rfl (by kernel_rfl) (fun _ ⟨_, H9⟩ => Yl.load rfl (Lds.one Tryz.isAgg22 (Cls.of (H9.cls (i := 2) rfl) rfl))) ?_)
 refine GX.do 5 rfl (by kernel_rfl) (Do.call Tryz.call47 rfl ?_ (fun _ _ k => k))
 refine Calls.body (args := [.pointer (some ⟨g24, 0, none⟩), .int .u8 97]) Tryz.func47 rfl rfl rfl ?_
 show Wp _ _ _ [(0, .pointer (some ⟨g24, 0, none⟩)), (1, .int .u8 97)] _ _
 refine sr (An rfl (Wp.seq (sr (Mn rfl (bo (sr (Kz (.bool false) (An rfl (jf (sr (Kz (.bool false) (An rfl (jf (sr (Kz (.bool false) (An rfl (jf (sr (Kz (.bool false) (An rfl (jf ?_)))))))))))))))))))))
 refine sr (Kz (.bool false) (An rfl (jf (sr (Kz (.bool false) (An rfl (jf (sr (Kz (.bool false) (An rfl (jf (sr (Kz (.bool true) (An rfl (jt (sr (Mz rfl (Kz (.pointer (some ⟨g24, 0, none⟩)) (Kz (.pointer (some ⟨g24, 13, none⟩)) (An rfl (rt (bR (tR (rs ?_))))))))))))))))))))))))
 refine ⟨.inr ⟨_, H62⟩, ?_⟩
 refine GX.take (v := .pointer (some ⟨g24, 13, none⟩)) (rs := []) 6 rfl (by kernel_rfl) (fun _ _ => yk) (GX.take (v := .int .u64 ((p1.xAttempt : Nat) : Int)) (rs := []) 7 rfl (by kernel_rfl) (fun _ ⟨_, H9⟩ => Yl.load rfl (Lds.one Tryz.isAgg22 (Cls.of (H9.cls (i := 1) rfl) rfl))) (GX.take (v := .bool (decide (¬ (((p0.xAttempt : Nat) : Int) = ((p1.xAttempt : Nat) : Int))))) (rs := []) 8 rfl (by kernel_rfl) (fun _ _ => Yl.bool (e := !(decide (((p0.xAttempt : Nat) : Int) = ((p1.xAttempt : Nat) : Int)))) yk decide_not.symm) (GX.done (by kernel_rfl) (Fin.then ?_))))
 by_cases h63 : ((p0.xAttempt : Nat) : Int) = ((p1.xAttempt : Nat) : Int)
 refine jF (dF (not_not_intro h63)) (Wp.skip (bN (Fin.then (Wp.region (Kz (.int .i64 8) (Mz rfl (WL.nil (Fin.again [(10, .int .i64 8), (9, .int .i64 9), (8, .slice A27 9 9), (4, .bool false), (3, .pointer (some ⟨g24, 0, none⟩)), (2, .pointer (some ⟨g21, 0, none⟩))] ⟨rfl, rfl, rfl, rfl, rfl, rfl, trivial⟩ (sr (Kz (.bool true) (nt (Wp.seq (jt (sk (Wp.seq (bo (sr ?_)))))))))))))))))
 have hx64 : ([113, 98, 116, 108, 118, 101, 109, 97, 110] : List UInt8)[8]? = some 110 := rfl
 refine fw (.pointer (some ⟨ab A27, ao A27 + 8 * 1, none⟩)) (Yl.indexAddr (El31) rfl rfl ((H62.rds (i := 0) rfl).addr (i := 8) (by omega)) (by omega)) (fw (.int .u8 110) (Yl.load rfl (Lds.one Tryz.isAgg5 (((H62.rds (i := 0) rfl).elem eB_len hx64 (by decide)).at_ (k := 0) rfl))) (An rfl (Wp.seq ?_)))
 have H66 := H62.drew
 refine Wp.drawnX [] (fun W => ∃ L', Own w D W ([row A27 9 9 (List.flatMap eB ([113, 98, 116, 108, 118, 101, 109, 97, 110])) 5 1, blk g24 (MsgP p1 A1x0 c1x0 A1x1 c1x1 A1x2 c1x2) 29, blk g21 (MsgP p0 A0x0 c0x0 A0x1 c0x1 A0x2 c0x2) 29] ++ L')) (by kernel_rfl) (by kernel_rfl) (NoP.then (NoP.block (NoP.then (NoP.then (NoP.block (NoP.then NoP.base)))))) ⟨_, H66⟩ ?_
 revert H66
 generalize World.drew w61 = w65
 intro H66
 refine GX.take (v := .int .u8 110) (rs := []) 0 rfl (by kernel_rfl) (fun _ _ => Yl.move rfl) (GX.take (v := .int .u8 110) (rs := []) 4 rfl (by kernel_rfl) (fun _ _ => Yl.move rfl) ?_)
 refine GX.do 1 rfl (by kernel_rfl) (Do.call Tryz.call47 rfl ?_ (fun _ _ k => k))
 refine Calls.body (args := [.pointer (some ⟨g21, 0, none⟩), .int .u8 110]) Tryz.func47 rfl rfl rfl ?_
 show Wp _ _ _ [(0, .pointer (some ⟨g21, 0, none⟩)), (1, .int .u8 110)] _ _
 refine sr (An rfl (Wp.seq (sr (Mn rfl (bo (sr (Kz (.bool false) (An rfl (jf (sr (Kz (.bool false) (An rfl (jf (sr (Kz (.bool false) (An rfl (jf (sr (Kz (.bool false) (An rfl (jf ?_)))))))))))))))))))))
 refine sr (Kz (.bool false) (An rfl (jf (sr (Kz (.bool false) (An rfl (jf (sr (Kz (.bool false) (An rfl (jf (sr (Kz (.bool false) (An rfl (jf (sr (Kz (.bool true) (An rfl (jt (sr (Mz rfl (Kz (.pointer (some ⟨g21, 0, none⟩)) (Kz (.pointer (some ⟨g21, 14, none⟩)) ?_)))))))))))))))))))))))
 refine An rfl (rt (bR (tR (rs ?_))))
 refine ⟨.inr ⟨_, H66⟩, ?_⟩
 refine GX.take (v := .pointer (some ⟨g21, 14, none⟩)) (rs := []) 2 rfl (by kernel_rfl) (fun _ _ => yk) (GX.take (v := .int .u64 ((p0.xN : Nat) : Int)) (rs := []) 3 rfl (by kernel_rfl) (fun _ ⟨_, H9⟩ => Yl.load rfl (Lds.one Tryz.isAgg22 (Cls.of (H9.cls (i := 2) rfl) rfl))) ?_)
 refine GX.do 5 rfl (by kernel_rfl) (Do.call Tryz.call47 rfl ?_ (fun _ _ k => k))
 refine Calls.body (args := [.pointer (some ⟨g24, 0, none⟩), .int .u8 110]) Tryz.func47 rfl rfl rfl ?_
 show Wp _ _ _ [(0, .pointer (some ⟨g24, 0, none⟩)), (1, .int .u8 110)] _ _
 refine sr (An rfl (Wp.seq (sr (Mn rfl (bo (sr (Kz (.bool false) (An rfl (jf (sr (Kz (.bool false) (An rfl (jf (sr (Kz (.bool false) (An rfl (jf (sr (Kz (.bool false) (An rfl (jf ?_)))))))))))))))))))))
 refine sr (Kz (.bool false) (An rfl (jf (sr (Kz (.bool false) (An rfl (jf (sr (Kz (.bool false) (An rfl (jf (sr (Kz (.bool false) (An rfl (jf (sr (Kz (.bool true) (An rfl (jt (sr (Mz rfl (Kz (.pointer (some ⟨g24, 0, none⟩)) (Kz (.pointer (some ⟨g24, 14, none⟩)) ?_)))))))))))))))))))))))
 refine An rfl (rt (bR (tR (rs ?_))))
 refine ⟨.inr ⟨_, H66⟩, ?_⟩
 refine GX.take (v := .pointer (some ⟨g24, 14, none⟩)) (rs := []) 6 rfl (by kernel_rfl) (fun _ _ => yk) (GX.take (v := .int .u64 ((p1.xN : Nat) : Int)) (rs := []) 7 rfl (by kernel_rfl) (fun _ ⟨_, H9⟩ => Yl.load rfl (Lds.one Tryz.isAgg22 (Cls.of (H9.cls (i := 1) rfl) rfl))) (GX.take (v := .bool (decide (¬ (((p0.xN : Nat) : Int) = ((p1.xN : Nat) : Int))))) (rs := []) 8 rfl (by kernel_rfl) (fun _ _ => Yl.bool (e := !(decide (((p0.xN : Nat) : Int) = ((p1.xN : Nat) : Int)))) yk decide_not.symm) (GX.done (by kernel_rfl) (Fin.then ?_))))
 by_cases h67 : ((p0.xN : Nat) : Int) = ((p1.xN : Nat) : Int)
 refine jF (dF (not_not_intro h67)) (Wp.skip (bN (Fin.then (Wp.region (Kz (.int .i64 9) (Mz rfl (WL.nil (Fin.again [(10, .int .i64 9), (9, .int .i64 9), (8, .slice A27 9 9), (4, .bool false), (3, .pointer (some ⟨g24, 0, none⟩)), (2, .pointer (some ⟨g21, 0, none⟩))] ⟨rfl, rfl, rfl, rfl, rfl, rfl, trivial⟩ (sr (Kz (.bool false) (nt (Wp.seq (jf (Wp.exit (Fin.thenX (Fin.thenX (Fin.blockX (Fin.then (Wp.seq ?_)))))))))))))))))))
 have H68 := H66.pk [1, 2]
 refine Wp.region (Kz (.pointer (some ⟨g21, 0, none⟩)) (Lz (.int .i64 p0.xKind) H68 1 Tryz.isAgg3 (Kz (.pointer (some ⟨g24, 0, none⟩)) (Lz (.int .i64 p1.xKind) H68 0 Tryz.isAgg3 (Kz (.bool (decide (p0.xKind = p1.xKind))) (Mz rfl ?_))))))
 refine WL.cutJ (ι := Bool) 6 (fun i => [(35, .bool i), (29, .bool (decide (p0.xKind = p1.xKind))), (28, .bool (decide (p0.xKind = p1.xKind))), (27, .int .i64 p1.xKind), (26, .pointer (some ⟨g24, 0, none⟩)), (25, .int .i64 p0.xKind), (24, .pointer (some ⟨g21, 0, none⟩)), (11, .bool false), (10, .int .i64 9), (9, .int .i64 9), (8, .slice A27 9 9), (4, .bool false), (3, .pointer (some ⟨g24, 0, none⟩)), (2, .pointer (some ⟨g21, 0, none⟩))]) (fun i w' => Own w D w' [blk g24 (MsgP p1 A1x0 c1x0 A1x1 c1x1 A1x2 c1x2) 29, blk g21 (MsgP p0 A0x0 c0x0 A0x1 c0x1 A0x2 c0x2) 29] ∧ ((if p0.xKind = p1.xKind then decide (p0.xFrom = p1.xFrom) else false) = i)) ?_ ?_
 intro hK70
 by_cases h71 : p0.xKind = p1.xKind
 refine Gz (.pointer (some ⟨g21, 1, none⟩)) (dT h71) (Gl (.int .i64 p0.xFrom) (dT h71) H68 1 Tryz.isAgg3 (Gz (.pointer (some ⟨g24, 1, none⟩)) (dT h71) (Gl (.int .i64 p1.xFrom) (dT h71) H68 0 Tryz.isAgg3 (Gz (.bool (decide (p0.xFrom = p1.xFrom))) (dT h71) (fw (.bool (decide (p0.xFrom = p1.xFrom))) (Yl.pickT rfl (dT h71) rfl) ?_)))))
 have H72 := H68.pk [0, 1]
 exact hK70 (decide (p0.xFrom = p1.xFrom)) _ _ ⟨H72, (show (if p0.xKind = p1.xKind then decide (p0.xFrom = p1.xFrom) else false) = decide (p0.xFrom = p1.xFrom) from ip h71)⟩ ⟨rfl, rfl, rfl, rfl, rfl, rfl, rfl, rfl, rfl, rfl, rfl, rfl, rfl, rfl, trivial⟩
 refine Sz (dF h71) (Sz (dF h71) (Sz (dF h71) (Sz (dF h71) (Sz (dF h71) (fw (.bool false) (Yl.pickF rfl (dF h71) rfl) ?_)))))
 have H73 := H68.pk [0, 1]
 exact hK70 false _ _ ⟨H73, (show (if p0.xKind = p1.xKind then decide (p0.xFrom = p1.xFrom) else false) = false from iN h71)⟩ ⟨rfl, rfl, rfl, rfl, rfl, rfl, rfl, rfl, rfl, rfl, rfl, rfl, rfl, rfl, trivial⟩
 rintro b69 w74 ⟨H75, hj76⟩
 show WL _ _ _ (List.drop 6 _) _ [(35, .bool b69), (29, .bool (decide (p0.xKind = p1.xKind))), (28, .bool (decide (p0.xKind = p1.xKind))), (27, .int .i64 p1.xKind), (26, .pointer (some ⟨g24, 0, none⟩)), (25, .int .i64 p0.xKind), (24, .pointer (some ⟨g21, 0, none⟩)), (11, .bool false), (10, .int .i64 9), (9, .int .i64 9), (8, .slice A27 9 9), (4, .bool false), (3, .pointer (some ⟨g24, 0, none⟩)), (2, .pointer (some ⟨g21, 0, none⟩))] _
 replace hj76 : (if p0.xKind = p1.xKind then decide (p0.xFrom = p1.xFrom) else false) = b69 := hj76
 refine Mz rfl ?_
 refine WL.cutJ (ι := Bool) 6 (fun i => [(42, .bool i), (36, .bool b69), (35, .bool b69), (29, .bool (decide (p0.xKind = p1.xKind))), (28, .bool (decide (p0.xKind = p1.xKind))), (27, .int .i64 p1.xKind), (26, .pointer (some ⟨g24, 0, none⟩)), (25, .int .i64 p0.xKind), (24, .pointer (some ⟨g21, 0, none⟩)), (11, .bool false), (10, .int .i64 9), (9, .int .i64 9), (8, .slice A27 9 9), (4, .bool false), (3, .pointer (some ⟨g24, 0, none⟩)), (2, .pointer (some ⟨g21, 0, none⟩))]) (fun i w' => Own w D w' [blk g24 (MsgP p1 A1x0 c1x0 A1x1 c1x1 A1x2 c1x2) 29, blk g21 (MsgP p0 A0x0 c0x0 A0x1 c0x1 A0x2 c0x2) 29] ∧ ((if b69 = true then decide (p0.xTo = p1.xTo) else false) = i)) ?_ ?_
 intro hK78
 rcases Bool.eq_false_or_eq_true (b69) with h79 | h79
 refine Gz (.pointer (some ⟨g21, 2, none⟩)) h79 (Gl (.int .i64 p0.xTo) h79 H75 1 Tryz.isAgg3 (Gz (.pointer (some ⟨g24, 2, none⟩)) h79 (Gl (.int .i64 p1.xTo) h79 H75 0 Tryz.isAgg3 (Gz (.bool (decide (p0.xTo = p1.xTo))) h79 (fw (.bool (decide (p0.xTo = p1.xTo))) (Yl.pickT rfl h79 rfl) ?_)))))
 have H80 := H75.pk [0, 1]
 exact hK78 (decide (p0.xTo = p1.xTo)) _ _ ⟨H80, (show (if b69 = true then decide (p0.xTo = p1.xTo) else false) = decide (p0.xTo = p1.xTo) from ip h79)⟩ ⟨rfl, rfl, rfl, rfl, rfl, rfl, rfl, rfl, rfl, rfl, rfl, rfl, rfl, rfl, rfl, rfl, trivial⟩
 refine Sz h79 (Sz h79 (Sz h79 (Sz h79 (Sz h79 (fw (.bool false) (Yl.pickF rfl h79 rfl) ?_)))))
 have H81 := H75.pk [0, 1]
 exact hK78 false _ _ ⟨H81, (show (if b69 = true then decide (p0.xTo = p1.xTo) else false) = false from ifF h79)⟩ ⟨rfl, rfl, rfl, rfl, rfl, rfl, rfl, rfl, rfl, rfl, rfl, rfl, rfl, rfl, rfl, rfl, trivial⟩
 rintro b77 w82 ⟨H83, hj84⟩
 show WL _ _ _ (List.drop 6 _) _ [(42, .bool b77), (36, .bool b69), (35, .bool b69), (29, .bool (decide (p0.xKind = p1.xKind))), (28, .bool (decide (p0.xKind = p1.xKind))), (27, .int .i64 p1.xKind), (26, .pointer (some ⟨g24, 0, none⟩)), (25, .int .i64 p0.xKind), (24, .pointer (some ⟨g21, 0, none⟩)), (11, .bool false), (10, .int .i64 9), (9, .int .i64 9), (8, .slice A27 9 9), (4, .bool false), (3, .pointer (some ⟨g24, 0, none⟩)), (2, .pointer (some ⟨g21, 0, none⟩))] _
 replace hj84 : (if b69 = true then decide (p0.xTo = p1.xTo) else false) = b77 := hj84
 refine Mz rfl ?_
 refine WL.cutJ (ι := Bool) 6 (fun i => [(49, .bool i), (43, .bool b77), (42, .bool b77), (36, .bool b69), (35, .bool b69), (29, .bool (decide (p0.xKind = p1.xKind))), (28, .bool (decide (p0.xKind = p1.xKind))), (27, .int .i64 p1.xKind), (26, .pointer (some ⟨g24, 0, none⟩)), (25, .int .i64 p0.xKind), (24, .pointer (some ⟨g21, 0, none⟩)), (11, .bool false), (10, .int .i64 9), (9, .int .i64 9), (8, .slice A27 9 9), (4, .bool false), (3, .pointer (some ⟨g24, 0, none⟩)), (2, .pointer (some ⟨g21, 0, none⟩))]) (fun i w' => Own w D w' [blk g24 (MsgP p1 A1x0 c1x0 A1x1 c1x1 A1x2 c1x2) 29, blk g21 (MsgP p0 A0x0 c0x0 A0x1 c0x1 A0x2 c0x2) 29] ∧ ((if b77 = true then decide (p0.xClient = p1.xClient) else false) = i)) ?_ ?_
 intro hK86
 rcases Bool.eq_false_or_eq_true (b77) with h87 | h87
 refine Gz (.pointer (some ⟨g21, 3, none⟩)) h87 (Gl (.int .i64 p0.xClient) h87 H83 1 Tryz.isAgg3 (Gz (.pointer (some ⟨g24, 3, none⟩)) h87 (Gl (.int .i64 p1.xClient) h87 H83 0 Tryz.isAgg3 (Gz (.bool (decide (p0.xClient = p1.xClient))) h87 (fw (.bool (decide (p0.xClient = p1.xClient))) (Yl.pickT rfl h87 rfl) ?_)))))
 have H88 := H83.pk [0, 1]
 exact hK86 (decide (p0.xClient = p1.xClient)) _ _ ⟨H88, (show (if b77 = true then decide (p0.xClient = p1.xClient) else false) = decide (p0.xClient = p1.xClient) from ip h87)⟩ ⟨rfl, rfl, rfl, rfl, rfl, rfl, rfl, rfl, rfl, rfl, rfl, rfl, rfl, rfl, rfl, rfl, rfl, rfl, trivial⟩
 refine Sz h87 (Sz h87 (Sz h87 (Sz h87 (Sz h87 (fw (.bool false) (Yl.pickF rfl h87 rfl) ?_)))))
 have H89 := H83.pk [0, 1]
 exact hK86 false _ _ ⟨H89, (show (if b77 = true then decide (p0.xClient = p1.xClient) else false) = false from ifF h87)⟩ ⟨rfl, rfl, rfl, rfl, rfl, rfl, rfl, rfl, rfl, rfl, rfl, rfl, rfl, rfl, rfl, rfl, rfl, rfl, trivial⟩
 rintro b85 w90 ⟨H91, hj92⟩
 show WL _ _ _ (List.drop 6 _) _ [(49, .bool b85), (43, .bool b77), (42, .bool b77), (36, .bool b69), (35, .bool b69), (29, .bool (decide (p0.xKind = p1.xKind))), (28, .bool (decide (p0.xKind = p1.xKind))), (27, .int .i64 p1.xKind), (26, .pointer (some ⟨g24, 0, none⟩)), (25, .int .i64 p0.xKind), (24, .pointer (some ⟨g21, 0, none⟩)), (11, .bool false), (10, .int .i64 9), (9, .int .i64 9), (8, .slice A27 9 9), (4, .bool false), (3, .pointer (some ⟨g24, 0, none⟩)), (2, .pointer (some ⟨g21, 0, none⟩))] _
 replace hj92 : (if b77 = true then decide (p0.xClient = p1.xClient) else false) = b85 := hj92
 refine Mz rfl ?_
 refine WL.cutJ (ι := Bool) 6 (fun i => [(56, .bool i), (50, .bool b85), (49, .bool b85), (43, .bool b77), (42, .bool b77), (36, .bool b69), (35, .bool b69), (29, .bool (decide (p0.xKind = p1.xKind))), (28, .bool (decide (p0.xKind = p1.xKind))), (27, .int .i64 p1.xKind), (26, .pointer (some ⟨g24, 0, none⟩)), (25, .int .i64 p0.xKind), (24, .pointer (some ⟨g21, 0, none⟩)), (11, .bool false), (10, .int .i64 9), (9, .int .i64 9), (8, .slice A27 9 9), (4, .bool false), (3, .pointer (some ⟨g24, 0, none⟩)), (2, .pointer (some ⟨g21, 0, none⟩))]) (fun i w' => Own w D w' [blk g24 (MsgP p1 A1x0 c1x0 A1x1 c1x1 A1x2 c1x2) 29, blk g21 (MsgP p0 A0x0 c0x0 A0x1 c0x1 A0x2 c0x2) 29] ∧ ((if b85 = true then decide (p0.xCode = p1.xCode) else false) = i)) ?_ ?_
 intro hK94
 rcases Bool.eq_false_or_eq_true (b85) with h95 | h95
 refine Gz (.pointer (some ⟨g21, 4, none⟩)) h95 (Gl (.int .i64 p0.xCode) h95 H91 1 Tryz.isAgg3 (Gz (.pointer (some ⟨g24, 4, none⟩)) h95 (Gl (.int .i64 p1.xCode) h95 H91 0 Tryz.isAgg3 (Gz (.bool (decide (p0.xCode = p1.xCode))) h95 (fw (.bool (decide (p0.xCode = p1.xCode))) (Yl.pickT rfl h95 rfl) ?_)))))
 have H96 := H91.pk [0, 1]
 exact hK94 (decide (p0.xCode = p1.xCode)) _ _ ⟨H96, (show (if b85 = true then decide (p0.xCode = p1.xCode) else false) = decide (p0.xCode = p1.xCode) from ip h95)⟩ ⟨rfl, rfl, rfl, rfl, rfl, rfl, rfl, rfl, rfl, rfl, rfl, rfl, rfl, rfl, rfl, rfl, rfl, rfl, rfl, rfl, trivial⟩
 refine Sz h95 (Sz h95 (Sz h95 (Sz h95 (Sz h95 (fw (.bool false) (Yl.pickF rfl h95 rfl) ?_)))))
 have H97 := H91.pk [0, 1]
 exact hK94 false _ _ ⟨H97, (show (if b85 = true then decide (p0.xCode = p1.xCode) else false) = false from ifF h95)⟩ ⟨rfl, rfl, rfl, rfl, rfl, rfl, rfl, rfl, rfl, rfl, rfl, rfl, rfl, rfl, rfl, rfl, rfl, rfl, rfl, rfl, trivial⟩
 rintro b93 w98 ⟨H99, hj100⟩
 show WL _ _ _ (List.drop 6 _) _ [(56, .bool b93), (50, .bool b85), (49, .bool b85), (43, .bool b77), (42, .bool b77), (36, .bool b69), (35, .bool b69), (29, .bool (decide (p0.xKind = p1.xKind))), (28, .bool (decide (p0.xKind = p1.xKind))), (27, .int .i64 p1.xKind), (26, .pointer (some ⟨g24, 0, none⟩)), (25, .int .i64 p0.xKind), (24, .pointer (some ⟨g21, 0, none⟩)), (11, .bool false), (10, .int .i64 9), (9, .int .i64 9), (8, .slice A27 9 9), (4, .bool false), (3, .pointer (some ⟨g24, 0, none⟩)), (2, .pointer (some ⟨g21, 0, none⟩))] _
 replace hj100 : (if b85 = true then decide (p0.xCode = p1.xCode) else false) = b93 := hj100
 refine Mz rfl ?_
 refine WL.cutJ (ι := Bool) 6 (fun i => [(63, .bool i), (57, .bool b93), (56, .bool b93), (50, .bool b85), (49, .bool b85), (43, .bool b77), (42, .bool b77), (36, .bool b69), (35, .bool b69), (29, .bool (decide (p0.xKind = p1.xKind))), (28, .bool (decide (p0.xKind = p1.xKind))), (27, .int .i64 p1.xKind), (26, .pointer (some ⟨g24, 0, none⟩)), (25, .int .i64 p0.xKind), (24, .pointer (some ⟨g21, 0, none⟩)), (11, .bool false), (10, .int .i64 9), (9, .int .i64 9), (8, .slice A27 9 9), (4, .bool false), (3, .pointer (some ⟨g24, 0, none⟩)), (2, .pointer (some ⟨g21, 0, none⟩))]) (fun i w' => Own w D w' [blk g24 (MsgP p1 A1x0 c1x0 A1x1 c1x1 A1x2 c1x2) 29, blk g21 (MsgP p0 A0x0 c0x0 A0x1 c0x1 A0x2 c0x2) 29] ∧ ((if b93 = true then decide (p0.xPeer = p1.xPeer) else false) = i)) ?_ ?_
 intro hK102
 rcases Bool.eq_false_or_eq_true (b93) with h103 | h103
 refine Gz (.pointer (some ⟨g21, 5, none⟩)) h103 (Gl (.int .i64 p0.xPeer) h103 H99 1 Tryz.isAgg3 (Gz (.pointer (some ⟨g24, 5, none⟩)) h103 (Gl (.int .i64 p1.xPeer) h103 H99 0 Tryz.isAgg3 (Gz (.bool (decide (p0.xPeer = p1.xPeer))) h103 (fw (.bool (decide (p0.xPeer = p1.xPeer))) (Yl.pickT rfl h103 rfl) ?_)))))
 have H104 := H99.pk [0, 1]
 exact hK102 (decide (p0.xPeer = p1.xPeer)) _ _ ⟨H104, (show (if b93 = true then decide (p0.xPeer = p1.xPeer) else false) = decide (p0.xPeer = p1.xPeer) from ip h103)⟩ ⟨rfl, rfl, rfl, rfl, rfl, rfl, rfl, rfl, rfl, rfl, rfl, rfl, rfl, rfl, rfl, rfl, rfl, rfl, rfl, rfl, rfl, rfl, trivial⟩
 refine Sz h103 (Sz h103 (Sz h103 (Sz h103 (Sz h103 (fw (.bool false) (Yl.pickF rfl h103 rfl) ?_)))))
 have H105 := H99.pk [0, 1]
 exact hK102 false _ _ ⟨H105, (show (if b93 = true then decide (p0.xPeer = p1.xPeer) else false) = false from ifF h103)⟩ ⟨rfl, rfl, rfl, rfl, rfl, rfl, rfl, rfl, rfl, rfl, rfl, rfl, rfl, rfl, rfl, rfl, rfl, rfl, rfl, rfl, rfl, rfl, trivial⟩
 rintro b101 w106 ⟨H107, hj108⟩
 show WL _ _ _ (List.drop 6 _) _ [(63, .bool b101), (57, .bool b93), (56, .bool b93), (50, .bool b85), (49, .bool b85), (43, .bool b77), (42, .bool b77), (36, .bool b69), (35, .bool b69), (29, .bool (decide (p0.xKind = p1.xKind))), (28, .bool (decide (p0.xKind = p1.xKind))), (27, .int .i64 p1.xKind), (26, .pointer (some ⟨g24, 0, none⟩)), (25, .int .i64 p0.xKind), (24, .pointer (some ⟨g21, 0, none⟩)), (11, .bool false), (10, .int .i64 9), (9, .int .i64 9), (8, .slice A27 9 9), (4, .bool false), (3, .pointer (some ⟨g24, 0, none⟩)), (2, .pointer (some ⟨g21, 0, none⟩))] _
 replace hj108 : (if b93 = true then decide (p0.xPeer = p1.xPeer) else false) = b101 := hj108
 refine Mz rfl ?_
 refine WL.cutJ (ι := Bool) 6 (fun i => [(70, .bool i), (64, .bool b101), (63, .bool b101), (57, .bool b93), (56, .bool b93), (50, .bool b85), (49, .bool b85), (43, .bool b77), (42, .bool b77), (36, .bool b69), (35, .bool b69), (29, .bool (decide (p0.xKind = p1.xKind))), (28, .bool (decide (p0.xKind = p1.xKind))), (27, .int .i64 p1.xKind), (26, .pointer (some ⟨g24, 0, none⟩)), (25, .int .i64 p0.xKind), (24, .pointer (some ⟨g21, 0, none⟩)), (11, .bool false), (10, .int .i64 9), (9, .int .i64 9), (8, .slice A27 9 9), (4, .bool false), (3, .pointer (some ⟨g24, 0, none⟩)), (2, .pointer (some ⟨g21, 0, none⟩))]) (fun i w' => Own w D w' [blk g24 (MsgP p1 A1x0 c1x0 A1x1 c1x1 A1x2 c1x2) 29, blk g21 (MsgP p0 A0x0 c0x0 A0x1 c0x1 A0x2 c0x2) 29] ∧ ((if b101 = true then decide (p0.xFlag = p1.xFlag) else false) = i)) ?_ ?_
 intro hK110
 rcases Bool.eq_false_or_eq_true (b101) with h111 | h111
 refine Gz (.pointer (some ⟨g21, 15, none⟩)) h111 (Gl (.bool p0.xFlag) h111 H107 1 Tryz.isAgg4 (Gz (.pointer (some ⟨g24, 15, none⟩)) h111 (Gl (.bool p1.xFlag) h111 H107 0 Tryz.isAgg4 (WL.valG (v := .bool (decide (p0.xFlag = p1.xFlag))) rfl rfl h111 rfl (Yl.bool (e := (p0.xFlag == p1.xFlag)) yk (by first | exact Bool.beq_eq_decide_eq _ _ | (by_cases q : p0.xFlag = p1.xFlag <;> simp [q]))) (fw (.bool (decide (p0.xFlag = p1.xFlag))) (Yl.pickT rfl h111 rfl) ?_)))))
 have H112 := H107.pk [0, 1]
 exact hK110 (decide (p0.xFlag = p1.xFlag)) _ _ ⟨H112, (show (if b101 = true then decide (p0.xFlag = p1.xFlag) else false) = decide (p0.xFlag = p1.xFlag) from ip h111)⟩ ⟨rfl, rfl, rfl, rfl, rfl, rfl, rfl, rfl, rfl, rfl, rfl, rfl, rfl, rfl, rfl, rfl, rfl, rfl, rfl, rfl, rfl, rfl, rfl, rfl, trivial⟩
 refine Sz h111 (Sz h111 (Sz h111 (Sz h111 (Sz h111 (fw (.bool false) (Yl.pickF rfl h111 rfl) ?_)))))
 have H113 := H107.pk [0, 1]
 exact hK110 false _ _ ⟨H113, (show (if b101 = true then decide (p0.xFlag = p1.xFlag) else false) = false from ifF h111)⟩ ⟨rfl, rfl, rfl, rfl, rfl, rfl, rfl, rfl, rfl, rfl, rfl, rfl, rfl, rfl, rfl, rfl, rfl, rfl, rfl, rfl, rfl, rfl, rfl, rfl, trivial⟩
 rintro b109 w114 ⟨H115, hj116⟩
 show WL _ _ _ (List.drop 6 _) _ [(70, .bool b109), (64, .bool b101), (63, .bool b101), (57, .bool b93), (56, .bool b93), (50, .bool b85), (49, .bool b85), (43, .bool b77), (42, .bool b77), (36, .bool b69), (35, .bool b69), (29, .bool (decide (p0.xKind = p1.xKind))), (28, .bool (decide (p0.xKind = p1.xKind))), (27, .int .i64 p1.xKind), (26, .pointer (some ⟨g24, 0, none⟩)), (25, .int .i64 p0.xKind), (24, .pointer (some ⟨g21, 0, none⟩)), (11, .bool false), (10, .int .i64 9), (9, .int .i64 9), (8, .slice A27 9 9), (4, .bool false), (3, .pointer (some ⟨g24, 0, none⟩)), (2, .pointer (some ⟨g21, 0, none⟩))] _
 replace hj116 : (if b101 = true then decide (p0.xFlag = p1.xFlag) else false) = b109 := hj116
 refine Mz rfl ?_
 refine WL.cutJ (ι := Bool) 6 (fun i => [(77, .bool i), (71, .bool b109), (70, .bool b109), (64, .bool b101), (63, .bool b101), (57, .bool b93), (56, .bool b93), (50, .bool b85), (49, .bool b85), (43, .bool b77), (42, .bool b77), (36, .bool b69), (35, .bool b69), (29, .bool (decide (p0.xKind = p1.xKind))), (28, .bool (decide (p0.xKind = p1.xKind))), (27, .int .i64 p1.xKind), (26, .pointer (some ⟨g24, 0, none⟩)), (25, .int .i64 p0.xKind), (24, .pointer (some ⟨g21, 0, none⟩)), (11, .bool false), (10, .int .i64 9), (9, .int .i64 9), (8, .slice A27 9 9), (4, .bool false), (3, .pointer (some ⟨g24, 0, none⟩)), (2, .pointer (some ⟨g21, 0, none⟩))]) (fun i w' => Own w D w' [blk g24 (MsgP p1 A1x0 c1x0 A1x1 c1x1 A1x2 c1x2) 29, blk g21 (MsgP p0 A0x0 c0x0 A0x1 c0x1 A0x2 c0x2) 29] ∧ ((if b109 = true then decide ((p0.xRange.xLo = p1.xRange.xLo) ∧ (p0.xRange.xHi = p1.xRange.xHi)) else false) = i)) ?_ ?_
 intro hK118
 rcases Bool.eq_false_or_eq_true (b109) with h119 | h119
 refine Gz (.pointer (some ⟨g21, 16, none⟩)) h119 (Ga (RangeD.cells p0.xRange) h119 H115 1 Tryz.isAgg24 Tryz.sizeOf24 (Gz (.pointer (some ⟨g24, 16, none⟩)) h119 (Ga (RangeD.cells p1.xRange) h119 H115 0 Tryz.isAgg24 Tryz.sizeOf24 (WL.valG (v := .bool (decide ((p0.xRange.xLo = p1.xRange.xLo) ∧ (p0.xRange.xHi = p1.xRange.xHi)))) rfl rfl h119 rfl (Yl.eqAgg rfl rfl (by kernel_rfl) rfl (Eqv.struct Tryz.underlying24 (by kernel_rfl) (EqF.dec (EqF.cons (u := .string ⟨List.toArray p0.xRange.xLo⟩) (v := .string ⟨List.toArray p1.xRange.xLo⟩) (by decide) (fun _ => by kernel_rfl) (fun _ => by kernel_rfl) (Eqv.string Tryz.underlying9) (EqF.cons (u := .string ⟨List.toArray p0.xRange.xHi⟩) (v := .string ⟨List.toArray p1.xRange.xHi⟩) (by decide) (fun _ => by kernel_rfl) (fun _ => by kernel_rfl) (Eqv.string Tryz.underlying9) (EqF.nil.up (Nat.zero_le _)))) ((congrArg (decide (p0.xRange.xLo = p1.xRange.xLo) && ·) and_dec1).trans and_dec)))) (fw (.bool (decide ((p0.xRange.xLo = p1.xRange.xLo) ∧ (p0.xRange.xHi = p1.xRange.xHi)))) (Yl.pickT rfl h119 rfl) ?_)))))
 have H120 := H115.pk [0, 1]
 exact hK118 (decide ((p0.xRange.xLo = p1.xRange.xLo) ∧ (p0.xRange.xHi = p1.xRange.xHi))) _ _ ⟨H120, (show (if b109 = true then decide ((p0.xRange.xLo = p1.xRange.xLo) ∧ (p0.xRange.xHi = p1.xRange.xHi)) else false) = decide ((p0.xRange.xLo = p1.xRange.xLo) ∧ (p0.xRange.xHi = p1.xRange.xHi)) from ip h119)⟩ ⟨rfl, rfl, rfl, rfl, rfl, rfl, rfl, rfl, rfl, rfl, rfl, rfl, rfl, rfl, rfl, rfl, rfl, rfl, rfl, rfl, rfl, rfl, rfl, rfl, rfl, rfl, trivial⟩
 refine Sz h119 (Sz h119 (Sz h119 (Sz h119 (Sz h119 (fw (.bool false) (Yl.pickF rfl h119 rfl) ?_)))))
 have H121 := H115.pk [0, 1]
 exact hK118 false _ _ ⟨H121, (show (if b109 = true then decide ((p0.xRange.xLo = p1.xRange.xLo) ∧ (p0.xRange.xHi = p1.xRange.xHi)) else false) = false from ifF h119)⟩ ⟨rfl, rfl, rfl, rfl, rfl, rfl, rfl, rfl, rfl, rfl, rfl, rfl, rfl, rfl, rfl, rfl, rfl, rfl, rfl, rfl, rfl, rfl, rfl, rfl, rfl, rfl, trivial⟩
 rintro b117 w122 ⟨H123, hj124⟩
 show WL _ _ _ (List.drop 6 _) _ [(77, .bool b117), (71, .bool b109), (70, .bool b109), (64, .bool b101), (63, .bool b101), (57, .bool b93), (56, .bool b93), (50, .bool b85), (49, .bool b85), (43, .bool b77), (42, .bool b77), (36, .bool b69), (35, .bool b69), (29, .bool (decide (p0.xKind = p1.xKind))), (28, .bool (decide (p0.xKind = p1.xKind))), (27, .int .i64 p1.xKind), (26, .pointer (some ⟨g24, 0, none⟩)), (25, .int .i64 p0.xKind), (24, .pointer (some ⟨g21, 0, none⟩)), (11, .bool false), (10, .int .i64 9), (9, .int .i64 9), (8, .slice A27 9 9), (4, .bool false), (3, .pointer (some ⟨g24, 0, none⟩)), (2, .pointer (some ⟨g21, 0, none⟩))] _
 replace hj124 : (if b109 = true then decide ((p0.xRange.xLo = p1.xRange.xLo) ∧ (p0.xRange.xHi = p1.xRange.xHi)) else false) = b117 := hj124
 refine Mz rfl ?_
 refine WL.cutJ (ι := Bool) 6 (fun i => [(84, .bool i), (78, .bool b117), (77, .bool b117), (71, .bool b109), (70, .bool b109), (64, .bool b101), (63, .bool b101), (57, .bool b93), (56, .bool b93), (50, .bool b85), (49, .bool b85), (43, .bool b77), (42, .bool b77), (36, .bool b69), (35, .bool b69), (29, .bool (decide (p0.xKind = p1.xKind))), (28, .bool (decide (p0.xKind = p1.xKind))), (27, .int .i64 p1.xKind), (26, .pointer (some ⟨g24, 0, none⟩)), (25, .int .i64 p0.xKind), (24, .pointer (some ⟨g21, 0, none⟩)), (11, .bool false), (10, .int .i64 9), (9, .int .i64 9), (8, .slice A27 9 9), (4, .bool false), (3, .pointer (some ⟨g24, 0, none⟩)), (2, .pointer (some ⟨g21, 0, none⟩))]) (fun i w' => Own w D w' [blk g24 (MsgP p1 A1x0 c1x0 A1x1 c1x1 A1x2 c1x2) 29, blk g21 (MsgP p0 A0x0 c0x0 A0x1 c0x1 A0x2 c0x2) 29] ∧ ((if b117 = true then bnd (r04_SameOps p0.xOps.ls p1.xOps.ls) fun yr133 => yr133 else false) = i)) ?_ ?_
 intro hK126
 rcases Bool.eq_false_or_eq_true (b117) with h127 | h127
 refine Gz (.pointer (some ⟨g21, 18, none⟩)) h127 (Gl (.slice A0x0 p0.xOps.ls.length c0x0) h127 H123 1 Tryz.isAgg25 (Gz (.pointer (some ⟨g24, 18, none⟩)) h127 (Gl (.slice A1x0 p1.xOps.ls.length c1x0) h127 H123 0 Tryz.isAgg25 ?_)))
 obtain ⟨r133, hr134⟩ : ∃ q, r04_SameOps p0.xOps.ls p1.xOps.ls = q := ⟨_, rfl⟩
 obtain ⟨D128, HP129, ro130, bk131, rr132⟩ := Own.enter0 H123
 refine WL.doG rfl rfl h127 rfl (Do.call Tryz.call48 rfl (r04_SameOps_ok _ _ A0x0 p0.xOps.ls.length c0x0 p0.xOps.ls A1x0 p1.xOps.ls.length c1x0 p1.xOps.ls r133 HP129 (ro130 _ hx0x0) rfl (by omega) (ro130 _ hx1x0) rfl (by omega) hr134) ?_)
 rintro _ w135 ⟨rfl, HQ136⟩
 have H137 := bk131 _ _ HQ136
 refine fw (.bool r133) (Yl.pickT rfl h127 rfl) ?_
 have H138 := H137.pk [0, 1]
 exact hK126 r133 _ _ ⟨H138, (show (if b117 = true then bnd (r04_SameOps p0.xOps.ls p1.xOps.ls) fun yr133 => yr133 else false) = r133 from et (ip h127) (bnd_of hr134))⟩ ⟨rfl, rfl, rfl, rfl, rfl, rfl, rfl, rfl, rfl, rfl, rfl, rfl, rfl, rfl, rfl, rfl, rfl, rfl, rfl, rfl, rfl, rfl, rfl, rfl, rfl, rfl, rfl, rfl, trivial⟩
 refine Sz h127 (Sz h127 (Sz h127 (Sz h127 (Sz h127 (fw (.bool false) (Yl.pickF rfl h127 rfl) ?_)))))
 have H139 := H123.pk [0, 1]
 exact hK126 false _ _ ⟨H139, (show (if b117 = true then bnd (r04_SameOps p0.xOps.ls p1.xOps.ls) fun yr133 => yr133 else false) = false from ifF h127)⟩ ⟨rfl, rfl, rfl, rfl, rfl, rfl, rfl, rfl, rfl, rfl, rfl, rfl, rfl, rfl, rfl, rfl, rfl, rfl, rfl, rfl, rfl, rfl, rfl, rfl, rfl, rfl, rfl, rfl, trivial⟩
 rintro b125 w140 ⟨H141, hj142⟩
 show WL _ _ _ (List.drop 6 _) _ [(84, .bool b125), (78, .bool b117), (77, .bool b117), (71, .bool b109), (70, .bool b109), (64, .bool b101), (63, .bool b101), (57, .bool b93), (56, .bool b93), (50, .bool b85), (49, .bool b85), (43, .bool b77), (42, .bool b77), (36, .bool b69), (35, .bool b69), (29, .bool (decide (p0.xKind = p1.xKind))), (28, .bool (decide (p0.xKind = p1.xKind))), (27, .int .i64 p1.xKind), (26, .pointer (some ⟨g24, 0, none⟩)), (25, .int .i64 p0.xKind), (24, .pointer (some ⟨g21, 0, none⟩)), (11, .bool false), (10, .int .i64 9), (9, .int .i64 9), (8, .slice A27 9 9), (4, .bool false), (3, .pointer (some ⟨g24, 0, none⟩)), (2, .pointer (some ⟨g21, 0, none⟩))] _
 replace hj142 : (if b117 = true then bnd (r04_SameOps p0.xOps.ls p1.xOps.ls) fun yr133 => yr133 else false) = b125 := hj142
 refine Mz rfl ?_
 refine WL.cutJ (ι := Bool) 6 (fun i => [(91, .bool i), (85, .bool b125), (84, .bool b125), (78, .bool b117), (77, .bool b117), (71, .bool b109), (70, .bool b109), (64, .bool b101), (63, .bool b101), (57, .bool b93), (56, .bool b93), (50, .bool b85), (49, .bool b85), (43, .bool b77), (42, .bool b77), (36, .bool b69), (35, .bool b69), (29, .bool (decide (p0.xKind = p1.xKind))), (28, .bool (decide (p0.xKind = p1.xKind))), (27, .int .i64 p1.xKind), (26, .pointer (some ⟨g24, 0, none⟩)), (25, .int .i64 p0.xKind), (24, .pointer (some ⟨g21, 0, none⟩)), (11, .bool false), (10, .int .i64 9), (9, .int .i64 9), (8, .slice A27 9 9), (4, .bool false), (3, .pointer (some ⟨g24, 0, none⟩)), (2, .pointer (some ⟨g21, 0, none⟩))]) (fun i w' => Own w D w' [blk g24 (MsgP p1 A1x0 c1x0 A1x1 c1x1 A1x2 c1x2) 29, blk g21 (MsgP p0 A0x0 c0x0 A0x1 c0x1 A0x2 c0x2) 29] ∧ ((if b125 = true then bnd (r04_SameResults p0.xResults.ls p1.xResults.ls) fun yr151 => yr151 else false) = i)) ?_ ?_
 intro hK144
 rcases Bool.eq_false_or_eq_true (b125) with h145 | h145
 refine Gz (.pointer (some ⟨g21, 19, none⟩)) h145 (Gl (.slice A0x1 p0.xResults.ls.length c0x1) h145 H141 1 Tryz.isAgg26 (Gz (.pointer (some ⟨g24, 19, none⟩)) h145 (Gl (.slice A1x1 p1.xResults.ls.length c1x1) h145 H141 0 Tryz.isAgg26 ?_)))
 obtain ⟨r151, hr152⟩ : ∃ q, r04_SameResults p0.xResults.ls p1.xResults.ls = q := ⟨_, rfl⟩
 obtain ⟨D146, HP147, ro148, bk149, rr150⟩ := Own.enter0 H141
 refine WL.doG rfl rfl h145 rfl (Do.call Tryz.call49 rfl (r04_SameResults_ok _ _ A0x1 p0.xResults.ls.length c0x1 d0x1 p0.xResults.ls A1x1 p1.xResults.ls.length c1x1 d1x1 p1.xResults.ls r151 HP147 hd0x1 (ro148 _ hx0x1) (fun x9 h9 => ⟨ro148 _ (hm0x1 x9 h9).1, (hm0x1 x9 h9).2⟩) rfl (by omega) hd1x1 (ro148 _ hx1x1) (fun x9 h9 => ⟨ro148 _ (hm1x1 x9 h9).1, (hm1x1 x9 h9).2⟩) rfl (by omega) hr152) ?_)
 rintro _ w153 ⟨rfl, HQ154⟩
 have H155 := bk149 _ _ HQ154
 refine fw (.bool r151) (Yl.pickT rfl h145 rfl) ?_
 have H156 := H155.pk [0, 1]
 exact hK144 r151 _ _ ⟨H156, (show (if b125 = true then bnd (r04_SameResults p0.xResults.ls p1.xResults.ls) fun yr151 => yr151 else false) = r151 from et (ip h145) (bnd_of hr152))⟩ ⟨rfl, rfl, rfl, rfl, rfl, rfl, rfl, rfl, rfl, rfl, rfl, rfl, rfl, rfl, rfl, rfl, rfl, rfl, rfl, rfl, rfl, rfl, rfl, rfl, rfl, rfl, rfl, rfl, rfl, rfl, trivial⟩
 refine Sz h145 (Sz h145 (Sz h145 (Sz h145 (Sz h145 (fw (.bool false) (Yl.pickF rfl h145 rfl) ?_)))))
 have H157 := H141.pk [0, 1]
 exact hK144 false _ _ ⟨H157, (show (if b125 = true then bnd (r04_SameResults p0.xResults.ls p1.xResults.ls) fun yr151 => yr151 else false) = false from ifF h145)⟩ ⟨rfl, rfl, rfl, rfl, rfl, rfl, rfl, rfl, rfl, rfl, rfl, rfl, rfl, rfl, rfl, rfl, rfl, rfl, rfl, rfl, rfl, rfl, rfl, rfl, rfl, rfl, rfl, rfl, rfl, rfl, trivial⟩
 rintro b143 w158 ⟨H159, hj160⟩
 show WL _ _ _ (List.drop 6 _) _ [(91, .bool b143), (85, .bool b125), (84, .bool b125), (78, .bool b117), (77, .bool b117), (71, .bool b109), (70, .bool b109), (64, .bool b101), (63, .bool b101), (57, .bool b93), (56, .bool b93), (50, .bool b85), (49, .bool b85), (43, .bool b77), (42, .bool b77), (36, .bool b69), (35, .bool b69), (29, .bool (decide (p0.xKind = p1.xKind))), (28, .bool (decide (p0.xKind = p1.xKind))), (27, .int .i64 p1.xKind), (26, .pointer (some ⟨g24, 0, none⟩)), (25, .int .i64 p0.xKind), (24, .pointer (some ⟨g21, 0, none⟩)), (11, .bool false), (10, .int .i64 9), (9, .int .i64 9), (8, .slice A27 9 9), (4, .bool false), (3, .pointer (some ⟨g24, 0, none⟩)), (2, .pointer (some ⟨g21, 0, none⟩))] _
 replace hj160 : (if b125 = true then bnd (r04_SameResults p0.xResults.ls p1.xResults.ls) fun yr151 => yr151 else false) = b143 := hj160
 refine Mz rfl ?_
 refine WL.cutJ (ι := Bool) 6 (fun i => [(98, .bool i), (92, .bool b143), (91, .bool b143), (85, .bool b125), (84, .bool b125), (78, .bool b117), (77, .bool b117), (71, .bool b109), (70, .bool b109), (64, .bool b101), (63, .bool b101), (57, .bool b93), (56, .bool b93), (50, .bool b85), (49, .bool b85), (43, .bool b77), (42, .bool b77), (36, .bool b69), (35, .bool b69), (29, .bool (decide (p0.xKind = p1.xKind))), (28, .bool (decide (p0.xKind = p1.xKind))), (27, .int .i64 p1.xKind), (26, .pointer (some ⟨g24, 0, none⟩)), (25, .int .i64 p0.xKind), (24, .pointer (some ⟨g21, 0, none⟩)), (11, .bool false), (10, .int .i64 9), (9, .int .i64 9), (8, .slice A27 9 9), (4, .bool false), (3, .pointer (some ⟨g24, 0, none⟩)), (2, .pointer (some ⟨g21, 0, none⟩))]) (fun i w' => Own w D w' [blk g24 (MsgP p1 A1x0 c1x0 A1x1 c1x1 A1x2 c1x2) 29, blk g21 (MsgP p0 A0x0 c0x0 A0x1 c0x1 A0x2 c0x2) 29] ∧ ((if b143 = true then bnd (r17_Same p0.xOwners.ls p1.xOwners.ls) fun yr169 => yr169 else false) = i)) ?_ ?_
 intro hK162
 rcases Bool.eq_false_or_eq_true (b143) with h163 | h163
 refine Gz (.pointer (some ⟨g21, 20, none⟩)) h163 (Gl (.slice A0x2 p0.xOwners.ls.length c0x2) h163 H159 1 Tryz.isAgg27 (Gz (.pointer (some ⟨g24, 20, none⟩)) h163 (Gl (.slice A1x2 p1.xOwners.ls.length c1x2) h163 H159 0 Tryz.isAgg27 ?_)))
 obtain ⟨r169, hr170⟩ : ∃ q, r17_Same p0.xOwners.ls p1.xOwners.ls = q := ⟨_, rfl⟩
 obtain ⟨D164, HP165, ro166, bk167, rr168⟩ := Own.enter0 H159
 refine WL.doG rfl rfl h163 rfl (Do.call Tryz.call50 rfl (r17_Same_ok _ _ A0x2 p0.xOwners.ls.length c0x2 p0.xOwners.ls A1x2 p1.xOwners.ls.length c1x2 p1.xOwners.ls r169 HP165 (ro166 _ hx0x2) rfl (by omega) (ro166 _ hx1x2) rfl (by omega) hr170) ?_)
 rintro _ w171 ⟨rfl, HQ172⟩
 have H173 := bk167 _ _ HQ172
 refine fw (.bool r169) (Yl.pickT rfl h163 rfl) ?_
 have H174 := H173.pk [0, 1]
 exact hK162 r169 _ _ ⟨H174, (show (if b143 = true then bnd (r17_Same p0.xOwners.ls p1.xOwners.ls) fun yr169 => yr169 else false) = r169 from et (ip h163) (bnd_of hr170))⟩ ⟨rfl, rfl, rfl, rfl, rfl, rfl, rfl, rfl, rfl, rfl, rfl, rfl, rfl, rfl, rfl, rfl, rfl, rfl, rfl, rfl, rfl, rfl, rfl, rfl, rfl, rfl, rfl, rfl, rfl, rfl, rfl, rfl, trivial⟩
 refine Sz h163 (Sz h163 (Sz h163 (Sz h163 (Sz h163 (fw (.bool false) (Yl.pickF rfl h163 rfl) ?_)))))
 have H175 := H159.pk [0, 1]
 exact hK162 false _ _ ⟨H175, (show (if b143 = true then bnd (r17_Same p0.xOwners.ls p1.xOwners.ls) fun yr169 => yr169 else false) = false from ifF h163)⟩ ⟨rfl, rfl, rfl, rfl, rfl, rfl, rfl, rfl, rfl, rfl, rfl, rfl, rfl, rfl, rfl, rfl, rfl, rfl, rfl, rfl, rfl, rfl, rfl, rfl, rfl, rfl, rfl, rfl, rfl, rfl, rfl, rfl, trivial⟩
 rintro b161 w176 ⟨H177, hj178⟩
 show WL _ _ _ (List.drop 6 _) _ [(98, .bool b161), (92, .bool b143), (91, .bool b143), (85, .bool b125), (84, .bool b125), (78, .bool b117), (77, .bool b117), (71, .bool b109), (70, .bool b109), (64, .bool b101), (63, .bool b101), (57, .bool b93), (56, .bool b93), (50, .bool b85), (49, .bool b85), (43, .bool b77), (42, .bool b77), (36, .bool b69), (35, .bool b69), (29, .bool (decide (p0.xKind = p1.xKind))), (28, .bool (decide (p0.xKind = p1.xKind))), (27, .int .i64 p1.xKind), (26, .pointer (some ⟨g24, 0, none⟩)), (25, .int .i64 p0.xKind), (24, .pointer (some ⟨g21, 0, none⟩)), (11, .bool false), (10, .int .i64 9), (9, .int .i64 9), (8, .slice A27 9 9), (4, .bool false), (3, .pointer (some ⟨g24, 0, none⟩)), (2, .pointer (some ⟨g21, 0, none⟩))] _
 replace hj178 : (if b143 = true then bnd (r17_Same p0.xOwners.ls p1.xOwners.ls) fun yr169 => yr169 else false) = b161 := hj178
 refine An rfl (rt (rs ?_))
 have H179 := H177.pk []
 obtain rfl : _ = b161 := hr.symm.trans (et (ip h35) (et (ip h39) (et (ip h43) (et (ip h47) (et (ip h51) (et (ip h55) (et (ip h59) (et (ip h63) (et (ip h67) (et (bnd_of hj76) (et (bnd_of hj84) (et (bnd_of hj92) (et (bnd_of hj100) (et (bnd_of hj108) (et (bnd_of hj116) (et (bnd_of hj124) (et (bnd_of hj142) (et (bnd_of hj160) (bnd_of hj178)))))))))))))))))))
 exact ⟨rfl, H179⟩
 refine jT (dT h67) (sr (An rfl (rt (bR (tR (tR (bR (tR (rs ?_)))))))))
 have H180 := H66.pk []
 obtain rfl : _ = false := hr.symm.trans (et (ip h35) (et (ip h39) (et (ip h43) (et (ip h47) (et (ip h51) (et (ip h55) (et (ip h59) (et (ip h63) (iN h67)))))))))
 exact ⟨rfl, H180⟩
 refine jT (dT h63) (sr (An rfl (rt (bR (tR (tR (bR (tR (rs ?_)))))))))
 have H181 := H62.pk []
 obtain rfl : _ = false := hr.symm.trans (et (ip h35) (et (ip h39) (et (ip h43) (et (ip h47) (et (ip h51) (et (ip h55) (et (ip h59) (iN h63))))))))
 exact ⟨rfl, H181⟩
 refine jT (dT h59) (sr (An rfl (rt (bR (tR (tR (bR (tR (rs ?_)))))))))
 have H182 := H58.pk []
 obtain rfl : _ = false := hr.symm.trans (et (ip h35) (et (ip h39) (et (ip h43) (et (ip h47) (et (ip h51) (et (ip h55) (iN h59)))))))
 exact ⟨rfl, H182⟩
 refine jT (dT h55) (sr (An rfl (rt (bR (tR (tR (bR (tR (rs ?_)))))))))
 have H183 := H54.pk []
 obtain rfl : _ = false := hr.symm.trans (et (ip h35) (et (ip h39) (et (ip h43) (et (ip h47) (et (ip h51) (iN h55))))))
 exact ⟨rfl, H183⟩
 refine jT (dT h51) (sr (An rfl (rt (bR (tR (tR (bR (tR (rs ?_)))))))))
 have H184 := H50.pk []
 obtain rfl : _ = false := hr.symm.trans (et (ip h35) (et (ip h39) (et (ip h43) (et (ip h47) (iN h51)))))
 exact ⟨rfl, H184⟩
 refine jT (dT h47) (sr (An rfl (rt (bR (tR (tR (bR (tR (rs ?_)))))))))
 have H185 := H46.pk []
 obtain rfl : _ = false := hr.symm.trans (et (ip h35) (et (ip h39) (et (ip h43) (iN h47))))
 exact ⟨rfl, H185⟩
 refine jT (dT h43) (sr (An rfl (rt (bR (tR (tR (bR (tR (rs ?_)))))))))
 have H186 := H42.pk []
 obtain rfl : _ = false := hr.symm.trans (et (ip h35) (et (ip h39) (iN h43)))
 exact ⟨rfl, H186⟩
 refine jT (dT h39) (sr (An rfl (rt (bR (tR (tR (bR (tR (rs ?_)))))))))
 have H187 := H38.pk []
 obtain rfl : _ = false := hr.symm.trans (et (ip h35) (iN h39))
 exact ⟨rfl, H187⟩
 refine jT (dT h35) (sr (An rfl (rt (bR (tR (tR (bR (tR (rs ?_)))))))))
 have H188 := H34.pk []
 obtain rfl : _ = false := hr.symm.trans (iN h35)
 exact ⟨rfl, H188⟩
def w18_live  : Bool :=
 bnd (wire_Encode (MsgT.mk 6 1 0 0 0 0 0 0 300 0 0 0 0 0 0 false (RangeD.mk ([]) ([])) (Ll.mk ([])) (Ll.mk ([])) (Ll.mk ([])))) fun yr26 => bnd (wire_Decode yr26.1) fun yr42 => bnd (w18_sealed ([6, 1, 0])) fun yr71 => bnd (wire_Decode yr71) fun yr86 => bnd (w18_sealed ([6, 5, 0, 1])) fun yr116 => bnd (wire_Decode yr116) fun yr131 => bnd (w18_sealed ([15])) fun yr161 => bnd (wire_Decode yr161) fun yr176 => bnd (w18_sealed ([6, 1, 0, 172, 2])) fun yr208 => if yr26.1 = yr208 then if yr26.2 = 0 then if yr42.1.xKind = 6 then if yr42.1.xFrom = 1 then if ((yr42.1.xTxn : Nat) : Int) = 300 then if yr42.2 = 0 then if yr86.2 = 10 then if yr131.2 = 180 then decide (yr176.2 = 11) else false else false else false else false else false else false else false else false
set_option maxRecDepth 100000 in
theorem w18_live_ok (w : World) (D : Nat → Prop)  (r0 : Bool) (H : Own w D w [])  (hr : w18_live = r0) :
    Calls Tryz.prog 8 #[] w (Ret fun v w' => v = .bool r0 ∧ Own w D w' []) := by
 refine Calls.body (args := []) Tryz.func8 rfl rfl rfl ?_
 show Wp _ _ _ [] _ _
 refine sr (Ar rfl (Kz (.agg (MsgC 6 1 0 0 0 0 0 0 300 0 0 0 0 0 0 false ([]) ([]) none 0 0 none 0 0 none 0 0).toArray) ?_))
 obtain ⟨⟨r26, r27⟩, hr28⟩ : ∃ q : (List UInt8) × Int, wire_Encode (MsgT.mk 6 1 0 0 0 0 0 0 300 0 0 0 0 0 0 false (RangeD.mk ([]) ([])) (Ll.mk ([])) (Ll.mk ([])) (Ll.mk ([]))) = q := ⟨_, rfl⟩
 obtain ⟨D21, HP22, ro23, bk24, rr25⟩ := Own.enter0 H
 refine cl Tryz.call9 (wire_Encode_ok _ _ (MsgT.mk 6 1 0 0 0 0 0 0 300 0 0 0 0 0 0 false (RangeD.mk ([]) ([])) (Ll.mk ([])) (Ll.mk ([])) (Ll.mk ([]))) none 0 0 none 0 0 [] none 0 0 r26 r27 HP22 rfl (fun _ _ => Rds.nil _ _ _) (by first | exact ⟨Nat.le_of_ble_eq_true rfl, Nat.le_of_ble_eq_true rfl⟩ | omega | exact ⟨Nat.le_refl _, by omega⟩) rfl rfl (fun _ _ => Rds.nil _ _ _) (by first | exact ⟨Nat.le_of_ble_eq_true rfl, Nat.le_of_ble_eq_true rfl⟩ | omega | exact ⟨Nat.le_refl _, by omega⟩) (fun _ h9 => absurd h9 List.not_mem_nil) rfl (fun _ _ => Rds.nil _ _ _) (by first | exact ⟨Nat.le_of_ble_eq_true rfl, Nat.le_of_ble_eq_true rfl⟩ | omega | exact ⟨Nat.le_refl _, by omega⟩) (by first | omega | (dsimp only; omega) | (simp only [List.length_nil]; omega)) (by first | omega | (dsimp only; omega) | (simp only [List.length_nil]; omega)) hr28) ?_
 rintro _ w29 ⟨A32, c33, rfl, HQ30, hk34⟩
 have H31 := bk24 _ _ HQ30
 have hb35 := H31.rowC (i := 0) rfl
 replace hk34 : r26.length ≤ 51000 := hk34
 refine Mz rfl (Kz (.slice A32 r26.length c33) (Kz (.int .i64 r27) (Az rfl (Ar rfl (Mz rfl ?_)))))
 have hb41 := H31.rowC (i := 0) rfl
 obtain ⟨⟨r42, r43⟩, hr44⟩ : ∃ q : MsgT × Int, wire_Decode r26 = q := ⟨_, rfl⟩
 obtain ⟨D36, HP37, ro38, bk39, rr40⟩ := Own.enter0 H31
 refine cl Tryz.call13 (wire_Decode_ok _ _ A32 r26.length c33 r26 r42 r43 HP37 (rr40 _ 0 _ rfl row_rds) rfl (by omega) (by first | omega | (simp only [List.length_take, List.length_drop]; omega) | exact Nat.le_refl _) hr44) ?_
 rintro _ w45 ⟨A48, c49, A50, c51, A52, c53, d54, rfl, HQ46, hd55, hk56⟩
 have H47 := bk39 _ _ HQ46
 have hl57 := abs_len hd55
 have hb58 := H47.rowC (i := 0) rfl
 have hb59 := H47.rowC (i := 1) rfl
 have hb60 := H47.rowC (i := 3) rfl
 replace hk56 : r42.xOps.ls.length ≤ 1000 ∧ r42.xResults.ls.length ≤ 1000 ∧ r42.xOwners.ls.length ≤ 1000 ∧ r42.xReq ≤ 18446744073709551615 ∧ r42.xBoot ≤ 18446744073709551615 ∧ r42.xTxn ≤ 18446744073709551615 ∧ r42.xLow ≤ 18446744073709551615 ∧ r42.xVer ≤ 18446744073709551615 ∧ r42.xEpoch ≤ 18446744073709551615 ∧ r42.xMove ≤ 18446744073709551615 ∧ r42.xAttempt ≤ 18446744073709551615 ∧ r42.xN ≤ 18446744073709551615 := hk56
 refine Mz rfl (Kz (.agg (MsgP r42 A48 c49 A50 c51 A52 c53).toArray) (Kz (.int .i64 r43) ?_))
 refine npw (MsgC 0 0 0 0 0 0 0 0 0 0 0 0 0 0 0 false ([]) ([]) none 0 0 none 0 0 none 0 0) 29 H47 ?_
 intro g61 w62 H63
 refine sto (MsgP r42 A48 c49 A50 c51 A52 c53) 0 H63 Tryz.sizeOf29 ?_
 intro w64 H65
 refine Ar rfl ?_
 obtain ⟨r71, hr72⟩ : ∃ q, w18_sealed ([6, 1, 0]) = q := ⟨_, rfl⟩
 obtain ⟨D66, HP67, ro68, bk69, rr70⟩ := Own.enter0 H65
 refine cl Tryz.call18 (w18_sealed_ok _ _ ([6, 1, 0]) r71 HP67 (by first | omega | exact Nat.le_of_ble_eq_true rfl) hr72) ?_
 rintro _ w73 ⟨A76, c77, rfl, HQ74, hk78⟩
 have H75 := bk69 _ _ HQ74
 have hb79 := H75.rowC (i := 0) rfl
 replace hk78 : r71.length ≤ 3 + 15 := hk78
 have hb85 := H75.rowC (i := 0) rfl
 obtain ⟨⟨r86, r87⟩, hr88⟩ : ∃ q : MsgT × Int, wire_Decode r71 = q := ⟨_, rfl⟩
 obtain ⟨D80, HP81, ro82, bk83, rr84⟩ := Own.enter0 H75
 refine cl Tryz.call13 (wire_Decode_ok _ _ A76 r71.length c77 r71 r86 r87 HP81 (rr84 _ 0 _ rfl row_rds) rfl (by omega) (by first | omega | (simp only [List.length_take, List.length_drop]; omega) | exact Nat.le_refl _) hr88) ?_
 rintro _ w89 ⟨A92, c93, A94, c95, A96, c97, d98, rfl, HQ90, hd99, hk100⟩
 have H91 := bk83 _ _ HQ90
 have hl101 := abs_len hd99
 have hb102 := H91.rowC (i := 0) rfl
 have hb103 := H91.rowC (i := 1) rfl
 have hb104 := H91.rowC (i := 3) rfl
 replace hk100 : r86.xOps.ls.length ≤ 1000 ∧ r86.xResults.ls.length ≤ 1000 ∧ r86.xOwners.ls.length ≤ 1000 ∧ r86.xReq ≤ 18446744073709551615 ∧ r86.xBoot ≤ 18446744073709551615 ∧ r86.xTxn ≤ 18446744073709551615 ∧ r86.xLow ≤ 18446744073709551615 ∧ r86.xVer ≤ 18446744073709551615 ∧ r86.xEpoch ≤ 18446744073709551615 ∧ r86.xMove ≤ 18446744073709551615 ∧ r86.xAttempt ≤ 18446744073709551615 ∧ r86.xN ≤ 18446744073709551615 := hk100
 refine Mz rfl (Kz (.agg (MsgP r86 A92 c93 A94 c95 A96 c97).toArray) (Kz (.int .i64 r87) ?_))
 refine npw (MsgC 0 0 0 0 0 0 0 0 0 0 0 0 0 0 0 false ([]) ([]) none 0 0 none 0 0 none 0 0) 29 H91 ?_
 intro g105 w106 H107
 refine sto (MsgP r86 A92 c93 A94 c95 A96 c97) 0 H107 Tryz.sizeOf29 ?_
 intro w108 H109
 refine An rfl (Wp.seq ?_)
 have H110 := H109.pk [6, 7, 8, 9, 10, 11]
 refine Wp.region ?_
 obtain ⟨r116, hr117⟩ : ∃ q, w18_sealed ([6, 5, 0, 1]) = q := ⟨_, rfl⟩
 obtain ⟨D111, HP112, ro113, bk114, rr115⟩ := Own.enter0 H110
 refine cl Tryz.call18 (w18_sealed_ok _ _ ([6, 5, 0, 1]) r116 HP112 (by first | omega | exact Nat.le_of_ble_eq_true rfl) hr117) ?_
 rintro _ w118 ⟨A121, c122, rfl, HQ119, hk123⟩
 have H120 := bk114 _ _ HQ119
 have hb124 := H120.rowC (i := 0) rfl
 replace hk123 : r116.length ≤ 4 + 15 := hk123
 have hb130 := H120.rowC (i := 0) rfl
 obtain ⟨⟨r131, r132⟩, hr133⟩ : ∃ q : MsgT × Int, wire_Decode r116 = q := ⟨_, rfl⟩
 obtain ⟨D125, HP126, ro127, bk128, rr129⟩ := Own.enter0 H120
 refine cl Tryz.call13 (wire_Decode_ok _ _ A121 r116.length c122 r116 r131 r132 HP126 (rr129 _ 0 _ rfl row_rds) rfl (by omega) (by first | omega | (simp only [List.length_take, List.length_drop]; omega) | exact Nat.le_refl _) hr133) ?_
 rintro _ w134 ⟨A137, c138, A139, c140, A141, c142, d143, rfl, HQ135, hd144, hk145⟩
 have H136 := bk128 _ _ HQ135
 have hl146 := abs_len hd144
 have hb147 := H136.rowC (i := 0) rfl
 have hb148 := H136.rowC (i := 1) rfl
 have hb149 := H136.rowC (i := 3) rfl
 replace hk145 : r131.xOps.ls.length ≤ 1000 ∧ r131.xResults.ls.length ≤ 1000 ∧ r131.xOwners.ls.length ≤ 1000 ∧ r131.xReq ≤ 18446744073709551615 ∧ r131.xBoot ≤ 18446744073709551615 ∧ r131.xTxn ≤ 18446744073709551615 ∧ r131.xLow ≤ 18446744073709551615 ∧ r131.xVer ≤ 18446744073709551615 ∧ r131.xEpoch ≤ 18446744073709551615 ∧ r131.xMove ≤ 18446744073709551615 ∧ r131.xAttempt ≤ 18446744073709551615 ∧ r131.xN ≤ 18446744073709551615 := hk145
 refine Mz rfl (Kz (.agg (MsgP r131 A137 c138 A139 c140 A141 c142).toArray) (Kz (.int .i64 r132) ?_))
 refine npw (MsgC 0 0 0 0 0 0 0 0 0 0 0 0 0 0 0 false ([]) ([]) none 0 0 none 0 0 none 0 0) 29 H136 ?_
 intro g150 w151 H152
 refine sto (MsgP r131 A137 c138 A139 c140 A141 c142) 0 H152 Tryz.sizeOf29 ?_
 intro w153 H154
 refine An rfl (Wp.seq ?_)
 have H155 := H154.pk [6, 7, 8, 9, 10, 11]
 refine Wp.region ?_
 obtain ⟨r161, hr162⟩ : ∃ q, w18_sealed ([15]) = q := ⟨_, rfl⟩
 obtain ⟨D156, HP157, ro158, bk159, rr160⟩ := Own.enter0 H155
 refine cl Tryz.call18 (w18_sealed_ok _ _ ([15]) r161 HP157 (by first | omega | exact Nat.le_of_ble_eq_true rfl) hr162) ?_
 rintro _ w163 ⟨A166, c167, rfl, HQ164, hk168⟩
 have H165 := bk159 _ _ HQ164
 have hb169 := H165.rowC (i := 0) rfl
 replace hk168 : r161.length ≤ 1 + 15 := hk168
 have hb175 := H165.rowC (i := 0) rfl
 obtain ⟨⟨r176, r177⟩, hr178⟩ : ∃ q : MsgT × Int, wire_Decode r161 = q := ⟨_, rfl⟩
 obtain ⟨D170, HP171, ro172, bk173, rr174⟩ := Own.enter0 H165
 refine cl Tryz.call13 (wire_Decode_ok _ _ A166 r161.length c167 r161 r176 r177 HP171 (rr174 _ 0 _ rfl row_rds) rfl (by omega) (by first | omega | (simp only [List.length_take, List.length_drop]; omega) | exact Nat.le_refl _) hr178) ?_
 rintro _ w179 ⟨A182, c183, A184, c185, A186, c187, d188, rfl, HQ180, hd189, hk190⟩
 have H181 := bk173 _ _ HQ180
 have hl191 := abs_len hd189
 have hb192 := H181.rowC (i := 0) rfl
 have hb193 := H181.rowC (i := 1) rfl
 have hb194 := H181.rowC (i := 3) rfl
 replace hk190 : r176.xOps.ls.length ≤ 1000 ∧ r176.xResults.ls.length ≤ 1000 ∧ r176.xOwners.ls.length ≤ 1000 ∧ r176.xReq ≤ 18446744073709551615 ∧ r176.xBoot ≤ 18446744073709551615 ∧ r176.xTxn ≤ 18446744073709551615 ∧ r176.xLow ≤ 18446744073709551615 ∧ r176.xVer ≤ 18446744073709551615 ∧ r176.xEpoch ≤ 18446744073709551615 ∧ r176.xMove ≤ 18446744073709551615 ∧ r176.xAttempt ≤ 18446744073709551615 ∧ r176.xN ≤ 18446744073709551615 := hk190
 refine Mz rfl (Kz (.agg (MsgP r176 A182 c183 A184 c185 A186 c187).toArray) (Kz (.int .i64 r177) ?_))
 refine npw (MsgC 0 0 0 0 0 0 0 0 0 0 0 0 0 0 0 false ([]) ([]) none 0 0 none 0 0 none 0 0) 29 H181 ?_
 intro g195 w196 H197
 refine sto (MsgP r176 A182 c183 A184 c185 A186 c187) 0 H197 Tryz.sizeOf29 ?_
 intro w198 H199
 refine An rfl (Wp.seq ?_)
 have H200 := H199.pk [6, 7, 8, 9, 10, 11]
 have H202 := H200.drew
 refine Wp.drawnX [] (fun W => ∃ L', Own w D W ([blk g61 (MsgP r42 A48 c49 A50 c51 A52 c53) 29, row A48 r42.xOps.ls.length c49 (List.flatMap OpD.cells r42.xOps.ls) 64 6, row A50 r42.xResults.ls.length c51 (List.flatMap ResultD.cells d54) 84 3, sepL (List.flatMap ResultD.own d54), row A52 r42.xOwners.ls.length c53 (List.flatMap OwnerD.cells r42.xOwners.ls) 88 2, row A32 r26.length c33 (List.flatMap eB r26) 5 1] ++ L')) (by kernel_rfl) (by kernel_rfl) (NoP.then NoP.base) ⟨_, H202⟩ ?_
 revert H202
 generalize World.drew w198 = w201
 intro H202
 refine GX.take (v := .slice A32 r26.length c33) (rs := []) 0 rfl (by kernel_rfl) (fun _ _ => Yl.move rfl) (GX.take (v := .string ⟨List.toArray r26⟩) (rs := []) 1 rfl (by kernel_rfl) (fun _ ⟨_, H9⟩ => Yl.toStringE (l := r26) Tryz.underlying31 Tryz.underlying5 Tryz.underlying9 (H9.rds (i := 5) rfl) rfl) ?_)
 obtain ⟨r208, hr209⟩ : ∃ q, w18_sealed ([6, 1, 0, 172, 2]) = q := ⟨_, rfl⟩
 obtain ⟨D203, HP204, ro205, bk206, rr207⟩ := Own.enter0 H202
 refine GX.do 2 rfl (by kernel_rfl) (Do.call Tryz.call18 rfl (w18_sealed_ok _ _ ([6, 1, 0, 172, 2]) r208 HP204 (by first | omega | exact Nat.le_of_ble_eq_true rfl) hr209) ?_)
 rintro _ w210 ⟨A213, c214, rfl, HQ211, hk215⟩
 have H212 := bk206 _ _ HQ211
 have hb216 := H212.rowC (i := 0) rfl
 replace hk215 : r208.length ≤ 5 + 15 := hk215
 have H217 := H212.pk [1, 2, 3, 4, 5, 6, 0]
 refine ⟨.inr ⟨_, H217⟩, ?_⟩
 refine GX.more (Good' := fun W => ∃ L', Own w D W ([blk g61 (MsgP r42 A48 c49 A50 c51 A52 c53) 29, row A48 r42.xOps.ls.length c49 (List.flatMap OpD.cells r42.xOps.ls) 64 6, row A50 r42.xResults.ls.length c51 (List.flatMap ResultD.cells d54) 84 3, sepL (List.flatMap ResultD.own d54), row A52 r42.xOwners.ls.length c53 (List.flatMap OwnerD.cells r42.xOwners.ls) 88 2, row A32 r26.length c33 (List.flatMap eB r26) 5 1, row A213 r208.length c214 (List.flatMap eB r208) 5 1] ++ L')) (fun _ ⟨L', h⟩ => ⟨[row A213 r208.length c214 (List.flatMap eB r208) 5 1] ++ L', h⟩) ⟨_, H217⟩ (GX.take (v := .string ⟨List.toArray r208⟩) (rs := []) 3 rfl (by kernel_rfl) (fun _ ⟨_, H9⟩ => Yl.toStringE (l := r208) Tryz.underlying31 Tryz.underlying5 Tryz.underlying9 (H9.rds (i := 6) rfl) rfl) (GX.take (v := .bool (decide (r26 = r208))) (rs := []) 4 rfl (by kernel_rfl) (fun _ _ => Yl.strEq rfl rfl) (GX.take (v := .bool (decide (r26 = r208))) (rs := []) 5 rfl (by kernel_rfl) (fun _ _ => Yl.move rfl) ?_)))
 by_cases h218 : r26 = r208
 refine GX.takeG (v := .int .i64 r27) (rs := []) 6 rfl rfl rfl (dT h218) (by kernel_rfl) (fun _ _ => Yl.move rfl) (GX.takeG (v := .bool (decide (r27 = 0))) (rs := []) 7 rfl rfl rfl (dT h218) (by kernel_rfl) (fun _ _ => yk) (GX.take (v := .bool (decide (r27 = 0))) (rs := []) 8 rfl (by kernel_rfl) (fun _ _ => Yl.pickT rfl (dT h218) rfl) (GX.take (v := .bool (decide (r27 = 0))) (rs := []) 9 rfl (by kernel_rfl) (fun _ _ => Yl.move rfl) ?_)))
 by_cases h219 : r27 = 0
 refine GX.takeG (v := .pointer (some ⟨g61, 0, none⟩)) (rs := []) 10 rfl rfl rfl (dT h219) (by kernel_rfl) (fun _ _ => yk) (GX.takeG (v := .int .i64 r42.xKind) (rs := []) 11 rfl rfl rfl (dT h219) (by kernel_rfl) (fun _ ⟨_, H9⟩ => Yl.load rfl (Lds.one Tryz.isAgg3 (Cls.of (H9.cls (i := 0) rfl) rfl))) (GX.takeG (v := .bool (decide (r42.xKind = 6))) (rs := []) 12 rfl rfl rfl (dT h219) (by kernel_rfl) (fun _ _ => yk) (GX.take (v := .bool (decide (r42.xKind = 6))) (rs := []) 13 rfl (by kernel_rfl) (fun _ _ => Yl.pickT rfl (dT h219) rfl) (GX.take (v := .bool (decide (r42.xKind = 6))) (rs := []) 14 rfl (by kernel_rfl) (fun _ _ => Yl.move rfl) ?_))))
 by_cases h220 : r42.xKind = 6
 refine GX.takeG (v := .pointer (some ⟨g61, 1, none⟩)) (rs := []) 15 rfl rfl rfl (dT h220) (by kernel_rfl) (fun _ _ => yk) (GX.takeG (v := .int .i64 r42.xFrom) (rs := []) 16 rfl rfl rfl (dT h220) (by kernel_rfl) (fun _ ⟨_, H9⟩ => Yl.load rfl (Lds.one Tryz.isAgg3 (Cls.of (H9.cls (i := 0) rfl) rfl))) (GX.takeG (v := .bool (decide (r42.xFrom = 1))) (rs := []) 17 rfl rfl rfl (dT h220) (by kernel_rfl) (fun _ _ => yk) (GX.take (v := .bool (decide (r42.xFrom = 1))) (rs := []) 18 rfl (by kernel_rfl) (fun _ _ => Yl.pickT rfl (dT h220) rfl) (GX.take (v := .bool (decide (r42.xFrom = 1))) (rs := []) 19 rfl (by kernel_rfl) (fun _ _ => Yl.move rfl) ?_))))
 by_cases h221 : r42.xFrom = 1
 refine GX.takeG (v := .pointer (some ⟨g61, 8, none⟩)) (rs := []) 20 rfl rfl rfl (dT h221) (by kernel_rfl) (fun _ _ => yk) (GX.takeG (v := .int .u64 ((r42.xTxn : Nat) : Int)) (rs := []) 21 rfl rfl rfl (dT h221) (by kernel_rfl) (fun _ ⟨_, H9⟩ => Yl.load rfl (Lds.one Tryz.isAgg22 (Cls.of (H9.cls (i := 0) rfl) rfl))) (GX.takeG (v := .bool (decide (((r42.xTxn : Nat) : Int) = 300))) (rs := []) 22 rfl rfl rfl (dT h221) (by kernel_rfl) (fun _ _ => yk) (GX.take (v := .bool (decide (((r42.xTxn : Nat) : Int) = 300))) (rs := []) 23 rfl (by kernel_rfl) (fun _ _ => Yl.pickT rfl (dT h221) rfl) (GX.take (v := .bool (decide (((r42.xTxn : Nat) : Int) = 300))) (rs := []) 24 rfl (by kernel_rfl) (fun _ _ => Yl.move rfl) ?_))))
 by_cases h222 : ((r42.xTxn : Nat) : Int) = 300
 refine GX.takeG (v := .int .i64 r43) (rs := []) 25 rfl rfl rfl (dT h222) (by kernel_rfl) (fun _ _ => Yl.move rfl) (GX.takeG (v := .bool (decide (r43 = 0))) (rs := []) 26 rfl rfl rfl (dT h222) (by kernel_rfl) (fun _ _ => yk) (GX.take (v := .bool (decide (r43 = 0))) (rs := []) 27 rfl (by kernel_rfl) (fun _ _ => Yl.pickT rfl (dT h222) rfl) (GX.take (v := .bool (decide (r43 = 0))) (rs := []) 28 rfl (by kernel_rfl) (fun _ _ => Yl.move rfl) ?_)))
 by_cases h223 : r43 = 0
 refine GX.takeG (v := .int .i64 r87) (rs := []) 29 rfl rfl rfl (dT h223) (by kernel_rfl) (fun _ _ => Yl.move rfl) (GX.takeG (v := .bool (decide (r87 = 10))) (rs := []) 30 rfl rfl rfl (dT h223) (by kernel_rfl) (fun _ _ => yk) (GX.take (v := .bool (decide (r87 = 10))) (rs := []) 31 rfl (by kernel_rfl) (fun _ _ => Yl.pickT rfl (dT h223) rfl) (GX.take (v := .bool (decide (r87 = 10))) (rs := []) 32 rfl (by kernel_rfl) (fun _ _ => Yl.move rfl) ?_)))
 by_cases h224 : r87 = 10
 refine GX.takeG (v := .int .i64 r132) (rs := []) 33 rfl rfl rfl (dT h224) (by kernel_rfl) (fun _ _ => Yl.move rfl) (GX.takeG (v := .bool (decide (r132 = 180))) (rs := []) 34 rfl rfl rfl (dT h224) (by kernel_rfl) (fun _ _ => yk) (GX.take (v := .bool (decide (r132 = 180))) (rs := []) 35 rfl (by kernel_rfl) (fun _ _ => Yl.pickT rfl (dT h224) rfl) (GX.take (v := .bool (decide (r132 = 180))) (rs := []) 36 rfl (by kernel_rfl) (fun _ _ => Yl.move rfl) ?_)))
 by_cases h225 : r132 = 180
 refine GX.takeG (v := .int .i64 r177) (rs := []) 37 rfl rfl rfl (dT h225) (by kernel_rfl) (fun _ _ => Yl.move rfl) (GX.takeG (v := .bool (decide (r177 = 11))) (rs := []) 38 rfl rfl rfl (dT h225) (by kernel_rfl) (fun _ _ => yk) (GX.take (v := .bool (decide (r177 = 11))) (rs := []) 39 rfl (by kernel_rfl) (fun _ _ => Yl.pickT rfl (dT h225) rfl) (GX.take (v := .bool (decide (r177 = 11))) (rs := []) 40 rfl (by kernel_rfl) (fun _ _ => Yl.assign rfl) (GX.done (by kernel_rfl) (Fin.then (rt (rs ?_)))))))
 have H226 := H217.pk []
 obtain rfl : _ = decide (r177 = 11) := hr.symm.trans (et (bnd_of hr28) (et (bnd_of hr44) (et (bnd_of hr72) (et (bnd_of hr88) (et (bnd_of hr117) (et (bnd_of hr133) (et (bnd_of hr162) (et (bnd_of hr178) (et (bnd_of hr209) (et (ip h218) (et (ip h219) (et (ip h220) (et (ip h221) (et (ip h222) (et (ip h223) (et (ip h224) (ip h225)))))))))))))))))
 exact ⟨rfl, H226⟩
 refine GX.skipG (rs := []) 37 rfl rfl rfl (dF h225) (by kernel_rfl) (GX.skipG (rs := []) 38 rfl rfl rfl (dF h225) (by kernel_rfl) (GX.take (v := .bool false) (rs := []) 39 rfl (by kernel_rfl) (fun _ _ => Yl.pickF rfl (dF h225) rfl) (GX.take (v := .bool false) (rs := []) 40 rfl (by kernel_rfl) (fun _ _ => Yl.assign rfl) (GX.done (by kernel_rfl) (Fin.then (rt (rs ?_)))))))
 have H227 := H217.pk []
 obtain rfl : _ = false := hr.symm.trans (et (bnd_of hr28) (et (bnd_of hr44) (et (bnd_of hr72) (et (bnd_of hr88) (et (bnd_of hr117) (et (bnd_of hr133) (et (bnd_of hr162) (et (bnd_of hr178) (et (bnd_of hr209) (et (ip h218) (et (ip h219) (et (ip h220) (et (ip h221) (et (ip h222) (et (ip h223) (et (ip h224) (iN h225)))))))))))))))))
 exact ⟨rfl, H227⟩
 refine GX.skipG (rs := []) 33 rfl rfl rfl (dF h224) (by kernel_rfl) (GX.skipG (rs := []) 34 rfl rfl rfl (dF h224) (by kernel_rfl) (GX.take (v := .bool false) (rs := []) 35 rfl (by kernel_rfl) (fun _ _ => Yl.pickF rfl (dF h224) rfl) (GX.take (v := .bool false) (rs := []) 36 rfl (by kernel_rfl) (fun _ _ => Yl.move rfl) (GX.skipG (rs := []) 37 rfl rfl rfl rfl (by kernel_rfl) (GX.skipG (rs := []) 38 rfl rfl rfl rfl (by kernel_rfl) (GX.take (v := .bool false) (rs := []) 39 rfl (by kernel_rfl) (fun _ _ => Yl.pickF rfl rfl rfl) (GX.take (v := .bool false) (rs := []) 40 rfl (by kernel_rfl) (fun _ _ => Yl.assign rfl) (GX.done (by kernel_rfl) (Fin.then (rt (rs ?_)))))))))))
 have H228 := H217.pk []
 obtain rfl : _ = false := hr.symm.trans (et (bnd_of hr28) (et (bnd_of hr44) (et (bnd_of hr72) (et (bnd_of hr88) (et (bnd_of hr117) (et (bnd_of hr133) (et (bnd_of hr162) (et (bnd_of hr178) (et (bnd_of hr209) (et (ip h218) (et (ip h219) (et (ip h220) (et (ip h221) (et (ip h222) (et (ip h223) (iN h224))))))))))))))))
 exact ⟨rfl, H228⟩
 refine GX.skipG (rs := []) 29 rfl rfl rfl (dF h223) (by kernel_rfl) (GX.skipG (rs := []) 30 rfl rfl rfl (dF h223) (by kernel_rfl) (GX.take (v := .bool false) (rs := []) 31 rfl (by kernel_rfl) (fun _ _ => Yl.pickF rfl (dF h223) rfl) (GX.take (v := .bool false) (rs := []) 32 rfl (by kernel_rfl) (fun _ _ => Yl.move rfl) (GX.skipG (rs := []) 33 rfl rfl rfl rfl (by kernel_rfl) (GX.skipG (rs := []) 34 rfl rfl rfl rfl (by kernel_rfl) (GX.take (v := .bool false) (rs := []) 35 rfl (by kernel_rfl) (fun _ _ => Yl.pickF rfl rfl rfl) (GX.take (v := .bool false) (rs := []) 36 rfl (by kernel_rfl) (fun _ _ => Yl.move rfl) (GX.skipG (rs := []) 37 rfl rfl rfl rfl (by kernel_rfl) (GX.skipG (rs := []) 38 rfl rfl rfl rfl (by kernel_rfl) (GX.take (v := .bool false) (rs := []) 39 rfl (by kernel_rfl) (fun _ _ => Yl.pickF rfl rfl rfl) (GX.take (v := .bool false) (rs := []) 40 rfl (by kernel_rfl) (fun _ _ => Yl.assign rfl) (GX.done (by kernel_rfl) (Fin.then (rt (rs ?_)))))))))))))))
 have H229 := H217.pk []
 obtain rfl : _ = false := hr.symm.trans (et (bnd_of hr28) (et (bnd_of hr44) (et (bnd_of hr72) (et (bnd_of hr88) (et (bnd_of hr117) (et (bnd_of hr133) (et (bnd_of hr162) (et (bnd_of hr178) (et (bnd_of hr209) (et (ip h218) (et (ip h219) (et (ip h220) (et (ip h221) (et (ip h222) (iN h223)))))))))))))))
 exact ⟨rfl, H229⟩
 refine GX.skipG (rs := []) 25 rfl rfl rfl (dF h222) (by kernel_rfl) (GX.skipG (rs := []) 26 rfl rfl rfl (dF h222) (by kernel_rfl) (GX.take (v := .bool false) (rs := []) 27 rfl (by kernel_rfl) (fun _ _ => Yl.pickF rfl (dF h222) rfl) (GX.take (v := .bool false) (rs := []) 28 rfl (by kernel_rfl) (fun _ _ => Yl.move rfl) (GX.skipG (rs := []) 29 rfl rfl rfl rfl (by kernel_rfl) (GX.skipG (rs := []) 30 rfl rfl rfl rfl (by kernel_rfl) (GX.take (v := .bool false) (rs := []) 31 rfl (by kernel_rfl) (fun _ _ => Yl.pickF rfl rfl rfl) (GX.take (v := .bool false) (rs := []) 32 rfl (by kernel_rfl) (fun _ _ => Yl.move rfl) (GX.skipG (rs := []) 33 rfl rfl rfl rfl (by kernel_rfl) (GX.skipG (rs := []) 34 rfl rfl rfl rfl (by kernel_rfl) (GX.take (v := .bool false) (rs := []) 35 rfl (by kernel_rfl) (fun _ _ => Yl.pickF rfl rfl rfl) (GX.take (v := .bool false) (rs := []) 36 rfl (by kernel_rfl) (fun _ _ => Yl.move rfl) (GX.skipG (rs := []) 37 rfl rfl rfl rfl (by kernel_rfl) (GX.skipG (rs := []) 38 rfl rfl rfl rfl (by kernel_rfl) (GX.take (v := .bool false) (rs := []) 39 rfl (by kernel_rfl) (fun _ _ => Yl.pickF rfl rfl rfl) (GX.take (v := .bool false) (rs := []) 40 rfl (by kernel_rfl) (fun _ _ => Yl.assign rfl) (GX.done (by kernel_rfl) (Fin.then (rt (rs ?_)))))))))))))))))))
 have H230 := H217.pk []
 obtain rfl : _ = false := hr.symm.trans (et (bnd_of hr28) (et (bnd_of hr44) (et (bnd_of hr72) (et (bnd_of hr88) (et (bnd_of hr117) (et (bnd_of hr133) (et (bnd_of hr162) (et (bnd_of hr178) (et (bnd_of hr209) (et (ip h218) (et (ip h219) (et (ip h220) (et (ip h221) (iN h222))))))))))))))
 exact ⟨rfl, H230⟩
 refine GX.skipG (rs := []) 20 rfl rfl rfl (dF h221) (by kernel_rfl) (GX.skipG (rs := []) 21 rfl rfl rfl (dF h221) (by kernel_rfl) (GX.skipG (rs := []) 22 rfl rfl rfl (dF h221) (by kernel_rfl) (GX.take (v := .bool false) (rs := []) 23 rfl (by kernel_rfl) (fun _ _ => Yl.pickF rfl (dF h221) rfl) (GX.take (v := .bool false) (rs := []) 24 rfl (by kernel_rfl) (fun _ _ => Yl.move rfl) (GX.skipG (rs := []) 25 rfl rfl rfl rfl (by kernel_rfl) (GX.skipG (rs := []) 26 rfl rfl rfl rfl (by kernel_rfl) (GX.take (v := .bool false) (rs := []) 27 rfl (by kernel_rfl) (fun _ _ => Yl.pickF rfl rfl rfl) (GX.take (v := .bool false) (rs := []) 28 rfl (by kernel_rfl) (fun _ _ => Yl.move rfl) (GX.skipG (rs := []) 29 rfl rfl rfl rfl (by kernel_rfl) (GX.skipG (rs := []) 30 rfl rfl rfl rfl (by kernel_rfl) (GX.take (v := .bool false) (rs := []) 31 rfl (by kernel_rfl) (fun _ _ => Yl.pickF rfl rfl rfl) (GX.take (v := .bool false) (rs := []) 32 rfl (by kernel_rfl) (fun _ _ => Yl.move rfl) (GX.skipG (rs := []) 33 rfl rfl rfl rfl (by kernel_rfl) (GX.skipG (rs := []) 34 rfl rfl rfl rfl (by kernel_rfl) (GX.take (v := .bool false) (rs := []) 35 rfl (by kernel_rfl) (fun _ _ => Yl.pickF rfl rfl rfl) (GX.take (v := .bool false) (rs := []) 36 rfl (by kernel_rfl) (fun _ _ => Yl.move rfl) (GX.skipG (rs := []) 37 rfl rfl rfl rfl (by kernel_rfl) (GX.skipG (rs := []) 38 rfl rfl rfl rfl (by kernel_rfl) (GX.take (v := .bool false) (rs := []) 39 rfl (by kernel_rfl) (fun _ _ => Yl.pickF rfl rfl rfl) (GX.take (v := .bool false) (rs := []) 40 rfl (by kernel_rfl) (fun _ _ => Yl.assign rfl) (GX.done (by kernel_rfl) (Fin.then (rt (rs ?_))))))))))))))))))))))))
 have H231 := H217.pk []
 obtain rfl : _ = false := hr.symm.trans (et (bnd_of hr28) (et (bnd_of hr44) (et (bnd_of hr72) (et (bnd_of hr88) (et (bnd_of hr117) (et (bnd_of hr133) (et (bnd_of hr162) (et (bnd_of hr178) (et (bnd_of hr209) (et (ip h218) (et (ip h219) (et (ip h220) (iN h221)))))))))))))
 exact ⟨rfl, H231⟩
 refine GX.skipG (rs := []) 15 rfl rfl rfl (dF h220) (by kernel_rfl) (GX.skipG (rs := []) 16 rfl rfl rfl (dF h220) (by kernel_rfl) (GX.skipG (rs := []) 17 rfl rfl rfl (dF h220) (by kernel_rfl) (GX.take (v := .bool false) (rs := []) 18 rfl (by kernel_rfl) (fun _ _ => Yl.pickF rfl (dF h220) rfl) (GX.take (v := .bool false) (rs := []) 19 rfl (by kernel_rfl) (fun _ _ => Yl.move rfl) (GX.skipG (rs := []) 20 rfl rfl rfl rfl (by kernel_rfl) (GX.skipG (rs := []) 21 rfl rfl rfl rfl (by kernel_rfl) (GX.skipG (rs := []) 22 rfl rfl rfl rfl (by kernel_rfl) (GX.take (v := .bool false) (rs := []) 23 rfl (by kernel_rfl) (fun _ _ => Yl.pickF rfl rfl rfl) (GX.take (v := .bool false) (rs := []) 24 rfl (by kernel_rfl) (fun _ _ => Yl.move rfl) (GX.skipG (rs := []) 25 rfl rfl rfl rfl (by kernel_rfl) (GX.skipG (rs := []) 26 rfl rfl rfl rfl (by kernel_rfl) (GX.take (v := .bool false) (rs := []) 27 rfl (by kernel_rfl) (fun _ _ => Yl.pickF rfl rfl rfl) (GX.take (v := .bool false) (rs := []) 28 rfl (by kernel_rfl) (fun _ _ => Yl.move rfl) (GX.skipG (rs := []) 29 rfl rfl rfl rfl (by kernel_rfl) (GX.skipG (rs := []) 30 rfl rfl rfl rfl (by kernel_rfl) (GX.take (v := .bool false) (rs := []) 31 rfl (by kernel_rfl) (fun _ _ => Yl.pickF rfl rfl rfl) (GX.take (v := .bool false) (rs := []) 32 rfl (by kernel_rfl) (fun _ _ => Yl.move rfl) (GX.skipG (rs := []) 33 rfl rfl rfl rfl (by kernel_rfl) (GX.skipG (rs := []) 34 rfl rfl rfl rfl (by kernel_rfl) (GX.take (v := .bool false) (rs := []) 35 rfl (by kernel_rfl) (fun _ _ => Yl.pickF rfl rfl rfl) (GX.take (v := .bool false) (rs := []) 36 rfl (by kernel_rfl) (fun _ _ => Yl.move rfl) (GX.skipG (rs := []) 37 rfl rfl rfl rfl (by kernel_rfl) (GX.skipG (rs := []) 38 rfl rfl rfl rfl (by kernel_rfl) (GX.take (v := .bool false) (rs := []) 39 rfl (by kernel_rfl) (fun _ _ => Yl.pickF rfl rfl rfl) (GX.take (v := .bool false) (rs := []) 40 rfl (by kernel_rfl) (fun _ _ => Yl.assign rfl) (GX.done (by kernel_rfl) (Fin.then (rt (rs ?_)))))))))))))))))))))))))))))
 have H232 := H217.pk []
 obtain rfl : _ = false := hr.symm.trans (et (bnd_of hr28) (et (bnd_of hr44) (et (bnd_of hr72) (et (bnd_of hr88) (et (bnd_of hr117) (et (bnd_of hr133) (et (bnd_of hr162) (et (bnd_of hr178) (et (bnd_of hr209) (et (ip h218) (et (ip h219) (iN h220))))))))))))
 exact ⟨rfl, H232⟩
 refine GX.skipG (rs := []) 10 rfl rfl rfl (dF h219) (by kernel_rfl) (GX.skipG (rs := []) 11 rfl rfl rfl (dF h219) (by kernel_rfl) (GX.skipG (rs := []) 12 rfl rfl rfl (dF h219) (by kernel_rfl) (GX.take (v := .bool false) (rs := []) 13 rfl (by kernel_rfl) (fun _ _ => Yl.pickF rfl (dF h219) rfl) (GX.take (v := .bool false) (rs := []) 14 rfl (by kernel_rfl) (fun _ _ => Yl.move rfl) (GX.skipG (rs := []) 15 rfl rfl rfl rfl (by kernel_rfl) (GX.skipG (rs := []) 16 rfl rfl rfl rfl (by kernel_rfl) (GX.skipG (rs := []) 17 rfl rfl rfl rfl (by kernel_rfl) (GX.take (v := .bool false) (rs := []) 18 rfl (by kernel_rfl) (fun _ _ => Yl.pickF rfl rfl rfl) (GX.take (v := .bool false) (rs := []) 19 rfl (by kernel_rfl) (fun _ _ => Yl.move rfl) (GX.skipG (rs := []) 20 rfl rfl rfl rfl (by kernel_rfl) (GX.skipG (rs := []) 21 rfl rfl rfl rfl (by kernel_rfl) (GX.skipG (rs := []) 22 rfl rfl rfl rfl (by kernel_rfl) (GX.take (v := .bool false) (rs := []) 23 rfl (by kernel_rfl) (fun _ _ => Yl.pickF rfl rfl rfl) (GX.take (v := .bool false) (rs := []) 24 rfl (by kernel_rfl) (fun _ _ => Yl.move rfl) (GX.skipG (rs := []) 25 rfl rfl rfl rfl (by kernel_rfl) (GX.skipG (rs := []) 26 rfl rfl rfl rfl (by kernel_rfl) (GX.take (v := .bool false) (rs := []) 27 rfl (by kernel_rfl) (fun _ _ => Yl.pickF rfl rfl rfl) (GX.take (v := .bool false) (rs := []) 28 rfl (by kernel_rfl) (fun _ _ => Yl.move rfl) (GX.skipG (rs := []) 29 rfl rfl rfl rfl (by kernel_rfl) (GX.skipG (rs := []) 30 rfl rfl rfl rfl (by kernel_rfl) (GX.take (v := .bool false) (rs := []) 31 rfl (by kernel_rfl) (fun _ _ => Yl.pickF rfl rfl rfl) (GX.take (v := .bool false) (rs := []) 32 rfl (by kernel_rfl) (fun _ _ => Yl.move rfl) (GX.skipG (rs := []) 33 rfl rfl rfl rfl (by kernel_rfl) (GX.skipG (rs := []) 34 rfl rfl rfl rfl (by kernel_rfl) (GX.take (v := .bool false) (rs := []) 35 rfl (by kernel_rfl) (fun _ _ => Yl.pickF rfl rfl rfl) (GX.take (v := .bool false) (rs := []) 36 rfl (by kernel_rfl) (fun _ _ => Yl.move rfl) (GX.skipG (rs := []) 37 rfl rfl rfl rfl (by kernel_rfl) (GX.skipG (rs := []) 38 rfl rfl rfl rfl (by kernel_rfl) (GX.take (v := .bool false) (rs := []) 39 rfl (by kernel_rfl) (fun _ _ => Yl.pickF rfl rfl rfl) (GX.take (v := .bool false) (rs := []) 40 rfl (by kernel_rfl) (fun _ _ => Yl.assign rfl) (GX.done (by kernel_rfl) (Fin.then (rt (rs ?_))))))))))))))))))))))))))))))))))
 have H233 := H217.pk []
 obtain rfl : _ = false := hr.symm.trans (et (bnd_of hr28) (et (bnd_of hr44) (et (bnd_of hr72) (et (bnd_of hr88) (et (bnd_of hr117) (et (bnd_of hr133) (et (bnd_of hr162) (et (bnd_of hr178) (et (bnd_of hr209) (et (ip h218) (iN h219)))))))))))
 exact ⟨rfl, H233⟩
 refine GX.skipG (rs := []) 6 rfl rfl rfl (dF h218) (by kernel_rfl) (GX.skipG (rs := []) 7 rfl rfl rfl (dF h218) (by kernel_rfl) (GX.take (v := .bool false) (rs := []) 8 rfl (by kernel_rfl) (fun _ _ => Yl.pickF rfl (dF h218) rfl) (GX.take (v := .bool false) (rs := []) 9 rfl (by kernel_rfl) (fun _ _ => Yl.move rfl) (GX.skipG (rs := []) 10 rfl rfl rfl rfl (by kernel_rfl) (GX.skipG (rs := []) 11 rfl rfl rfl rfl (by kernel_rfl) (GX.skipG (rs := []) 12 rfl rfl rfl rfl (by kernel_rfl) (GX.take (v := .bool false) (rs := []) 13 rfl (by kernel_rfl) (fun _ _ => Yl.pickF rfl rfl rfl) (GX.take (v := .bool false) (rs := []) 14 rfl (by kernel_rfl) (fun _ _ => Yl.move rfl) (GX.skipG (rs := []) 15 rfl rfl rfl rfl (by kernel_rfl) (GX.skipG (rs := []) 16 rfl rfl rfl rfl (by kernel_rfl) (GX.skipG (rs := []) 17 rfl rfl rfl rfl (by kernel_rfl) (GX.take (v := .bool false) (rs := []) 18 rfl (by kernel_rfl) (fun _ _ => Yl.pickF rfl rfl rfl) (GX.take (v := .bool false) (rs := []) 19 rfl (by kernel_rfl) (fun _ _ => Yl.move rfl) (GX.skipG (rs := []) 20 rfl rfl rfl rfl (by kernel_rfl) (GX.skipG (rs := []) 21 rfl rfl rfl rfl (by kernel_rfl) (GX.skipG (rs := []) 22 rfl rfl rfl rfl (by kernel_rfl) (GX.take (v := .bool false) (rs := []) 23 rfl (by kernel_rfl) (fun _ _ => Yl.pickF rfl rfl rfl) (GX.take (v := .bool false) (rs := []) 24 rfl (by kernel_rfl) (fun _ _ => Yl.move rfl) (GX.skipG (rs := []) 25 rfl rfl rfl rfl (by kernel_rfl) (GX.skipG (rs := []) 26 rfl rfl rfl rfl (by kernel_rfl) (GX.take (v := .bool false) (rs := []) 27 rfl (by kernel_rfl) (fun _ _ => Yl.pickF rfl rfl rfl) (GX.take (v := .bool false) (rs := []) 28 rfl (by kernel_rfl) (fun _ _ => Yl.move rfl) (GX.skipG (rs := []) 29 rfl rfl rfl rfl (by kernel_rfl) (GX.skipG (rs := []) 30 rfl rfl rfl rfl (by kernel_rfl) (GX.take (v := .bool false) (rs := []) 31 rfl (by kernel_rfl) (fun _ _ => Yl.pickF rfl rfl rfl) (GX.take (v := .bool false) (rs := []) 32 rfl (by kernel_rfl) (fun _ _ => Yl.move rfl) (GX.skipG (rs := []) 33 rfl rfl rfl rfl (by kernel_rfl) (GX.skipG (rs := []) 34 rfl rfl rfl rfl (by kernel_rfl) (GX.take (v := .bool false) (rs := []) 35 rfl (by kernel_rfl) (fun _ _ => Yl.pickF rfl rfl rfl) (GX.take (v := .bool false) (rs := []) 36 rfl (by kernel_rfl) (fun _ _ => Yl.move rfl) (GX.skipG (rs := []) 37 rfl rfl rfl rfl (by kernel_rfl) (GX.skipG (rs := []) 38 rfl rfl rfl rfl (by kernel_rfl) (GX.take (v := .bool false) (rs := []) 39 rfl (by kernel_rfl) (fun _ _ => Yl.pickF rfl rfl rfl) (GX.take (v := .bool false) (rs := []) 40 rfl (by kernel_rfl) (fun _ _ => Yl.assign rfl) (GX.done (by kernel_rfl) (Fin.then (rt (rs ?_))))))))))))))))))))))))))))))))))))))
 have H234 := H217.pk []
 obtain rfl : _ = false := hr.symm.trans (et (bnd_of hr28) (et (bnd_of hr44) (et (bnd_of hr72) (et (bnd_of hr88) (et (bnd_of hr117) (et (bnd_of hr133) (et (bnd_of hr162) (et (bnd_of hr178) (et (bnd_of hr209) (iN h218))))))))))
 exact ⟨rfl, H234⟩
end Go.Proofs.YtccjclalngabhaaGreat
