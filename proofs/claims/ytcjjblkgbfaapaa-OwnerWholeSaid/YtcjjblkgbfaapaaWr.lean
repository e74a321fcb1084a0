/-
  op: of the document's answer what is used here.
-/
import Derived.Test.YtcjjblkgbfaapaaOb
namespace Go.Proofs.Ytcjjblkgbfaapaa
open Go.RowKit
set_option linter.unusedVariables false
set_option linter.unusedSectionVars false
set_option linter.unusedSimpArgs false
def r04_Find_L0 (p1 : List UInt8) : List PairD → Unit ⊕ ((List UInt8) × Bool)
  | [] => Sum.inl ()
  | x30 :: q22 => if x30.xKey = p1 then Sum.inr (x30.xValue, true) else r04_Find_L0 p1 q22
def r04_Find (l0 : List PairD) (p1 : List UInt8) : (List UInt8) × Bool :=
  lp (r04_Find_L0 p1 l0) fun _ => ([], false)
set_option maxRecDepth 100000 in
theorem r04_Find_ok (w : World) (D : Nat → Prop) (A0 : Option Addr) (n0 c0 : Nat) (l0 : List PairD) (p1 : List UInt8) (r0 : List UInt8) (r1 : Bool) (H : Own w D w []) (hx0 : Ro w D fun w' => Rds w' 2 A0 n0 (List.flatMap PairD.cells l0)) (hn0 : n0 = l0.length) (hl0 : l0.length * 32 ≤ 211106232532992) (hr : r04_Find l0 p1 = (r0, r1)) :
    Calls Try.prog 28 #[.slice A0 n0 c0, .string ⟨List.toArray p1⟩] w (Ret fun v w' => v = .tuple #[.string ⟨List.toArray r0⟩, .bool r1] ∧ Own w D w' []) := by
  subst hn0
  refine Calls.body (args := [.slice A0 l0.length c0, .string ⟨List.toArray p1⟩]) Try.func28 rfl rfl rfl ?_
  show Wp _ _ _ [(0, .slice A0 l0.length c0), (1, .string ⟨List.toArray p1⟩)] _ _
  refine Wp.seq (Wp.region (As rfl rfl (As rfl rfl (WL.nil (Fin.then (Wp.seq (Wp.seq (Wp.region (Mv rfl rfl (Kn (v := .int .i64 ((l0.length : Nat) : Int)) rfl rfl rfl (fun _ => by kernel_rfl) (Mv rfl rfl (WL.nil (Fin.then (Wp.block ?_))))))))))))))
  have H23 : Own w D w [] := H.pick [] (by decide) rfl
  refine Wp.loop (ι := Nat) (fun i => [(4, .string ⟨List.toArray ([])⟩), (5, .bool false), (10, .int .i64 ((i : Nat) : Int)), (9, .int .i64 ((l0.length : Nat) : Int)), (8, .slice A0 l0.length c0), (1, .string ⟨List.toArray p1⟩)]) (fun (i : Nat) w' => Own w D w' [] ∧ (i ≤ l0.length ∧ r04_Find_L0 p1 l0 = r04_Find_L0 p1 (List.drop i l0))) (fun i => l0.length - i) 0 ⟨rfl, rfl, rfl, rfl, rfl, rfl, trivial⟩ ⟨H23, (show 0 ≤ l0.length ∧ r04_Find_L0 p1 l0 = r04_Find_L0 p1 (List.drop 0 l0) from ⟨by omega, rfl⟩)⟩ ?_
  rintro k21 w24 ⟨H25, hf26⟩
  show Wp _ _ _ [(4, .string ⟨List.toArray ([])⟩), (5, .bool false), (10, .int .i64 ((k21 : Nat) : Int)), (9, .int .i64 ((l0.length : Nat) : Int)), (8, .slice A0 l0.length c0), (1, .string ⟨List.toArray p1⟩)] _ _
  replace hf26 : k21 ≤ l0.length ∧ r04_Find_L0 p1 l0 = r04_Find_L0 p1 (List.drop k21 l0) := hf26
  obtain ⟨hi28, hq27⟩ := hf26
  refine Wp.seq (Wp.region (Kn (v := .bool (decide (((k21 : Nat) : Int) < ((l0.length : Nat) : Int)))) rfl rfl rfl (fun _ => by kernel_rfl) (WL.nil (Fin.then (Wp.seq ?_)))))
  by_cases h29 : ((k21 : Nat) : Int) < ((l0.length : Nat) : Int)
  obtain ⟨x30, hx31⟩ := rds_at (ls := l0) (i := k21) PairD.len (by decide) (H25.ro hx0) (by first | omega | (simp; done) | (simp; omega))
  have hd32 := drop_at hx31
  refine Wp.cond1 rfl (decide_eq_true h29) (Wp.skip (Fin.then (Wp.seq (Wp.block (Wp.seq (Wp.region (WL.val (v := .pointer (some ⟨ab A0, ao A0 + k21 * 2, none⟩)) rfl (Yl.indexAddr (El54) rfl rfl ((H25.ro hx0).addr (i := k21) (by omega)) (by omega)) (WL.val (v := .agg (PairD.cells x30).toArray) rfl (Yl.load rfl (Lds.agg (cs := (PairD.cells x30)) Try.isAgg58 Try.sizeOf58 ((H25.ro hx0).elem PairD.len hx31 (by decide)))) ?_))))))))
  refine WL.do rfl (Do.newP (cs := [.string ⟨List.toArray ([])⟩, .string ⟨List.toArray ([])⟩]) (t := 58) H25 rfl rfl (fun _ => by kernel_rfl) ?_)
  intro g33 w34 H35
  refine WL.do0 (Do.store (vs := (PairD.cells x30)) (o := 0) H35 rfl rfl Try.sizeOf58 rfl rfl rfl rfl ?_)
  intro w36 H37
  refine WL.nil (Fin.then (Wp.seq (Wp.region (Kn (v := .pointer (some ⟨g33, 0, none⟩)) rfl rfl rfl (fun _ => by kernel_rfl) (WL.val (v := .string ⟨List.toArray x30.xKey⟩) rfl (Yl.load rfl (Lds.one Try.isAgg9 (Cls.of (H37.cls (i := 0) rfl) rfl))) (Mv rfl rfl (WL.val (v := .bool (decide (x30.xKey = p1))) rfl (Yl.strEq rfl rfl) (WL.nil (Fin.then ?_)))))))))
  by_cases h38 : x30.xKey = p1
  refine Wp.cond1 rfl (decide_eq_true h38) (Wp.seq (Wp.region (Kn (v := .pointer (some ⟨g33, 1, none⟩)) rfl rfl rfl (fun _ => by kernel_rfl) (WL.val (v := .string ⟨List.toArray x30.xValue⟩) rfl (Yl.load rfl (Lds.one Try.isAgg9 (Cls.of (H37.cls (i := 0) rfl) rfl))) (As rfl rfl (As rfl rfl (WL.nil (Fin.then (Wp.ret (Fin.blockR (Fin.thenR (Fin.thenR (Fin.blockR (Fin.thenR (Fin.res (res2 rfl rfl rfl) ?_)))))))))))))))
  have H39 := H37.pick [] (by decide) rfl
  have e : r04_Find l0 p1 = (x30.xValue, true) := lp_r (Eq.trans (hq27) (Eq.trans (congrArg (fun q => r04_Find_L0 p1 q) hd32) (if_pos h38)))
  obtain ⟨rfl, rfl⟩ := pj2 (e.symm.trans hr)
  exact ⟨rfl, H39⟩
  refine Wp.cond0 rfl (decide_eq_false h38) (Wp.skip (Fin.blockN (Fin.then (Wp.region (WL.val (v := .int .i64 ((k21 + 1 : Nat) : Int)) rfl (Yl.int (e := IntKind.i64.wrap (((k21 : Nat) : Int) + 1)) (Yl.kern rfl rfl (fun _ => by kernel_rfl)) (by rw [IntWalk.i64_in _ (by omega)]; omega)) (Mv rfl rfl (WL.nil ?_)))))))
  have H40 := H37.pick [] (by decide) rfl
  exact Fin.round (k21 + 1) ⟨rfl, rfl, rfl, rfl, rfl, rfl, trivial⟩ ⟨H40, (show (k21 + 1) ≤ l0.length ∧ r04_Find_L0 p1 l0 = r04_Find_L0 p1 (List.drop (k21 + 1) l0) from ⟨by omega, Eq.trans (hq27) (Eq.trans (congrArg (fun q => r04_Find_L0 p1 q) hd32) (if_neg h38))⟩)⟩ (by show l0.length - (k21 + 1) < l0.length - k21; omega)
  refine Wp.cond0 rfl (decide_eq_false h29) (Wp.exit (Fin.thenX ?_))
  have hL41 : r04_Find_L0 p1 l0 = Sum.inl () := Eq.trans (hq27) (Eq.trans (congrArg (fun q => r04_Find_L0 p1 q) (drop_end (ls := l0) (i := k21) (by omega))) rfl)
  refine Fin.thenX (Fin.blockX (Fin.then (Wp.seq (Wp.region (As rfl rfl (As rfl rfl (WL.nil (Fin.then (Wp.ret (Fin.res (res2 rfl rfl rfl) ?_))))))))))
  have H42 := H25.pick [] (by decide) rfl
  have e : r04_Find l0 p1 = ([], false) := lp_l hL41
  obtain ⟨rfl, rfl⟩ := pj2 (e.symm.trans hr)
  exact ⟨rfl, H42⟩
def r04_SameMap_L0 (l1 : List PairD) : List PairD → Nat → Unit ⊕ Bool
  | [], k22 => Sum.inl ()
  | x31 :: q23, k22 => bnd (List.getD l1 k22 default) fun yx36 => if (x31.xKey = yx36.xKey) ∧ (x31.xValue = yx36.xValue) then r04_SameMap_L0 l1 q23 (k22 + 1) else Sum.inr (false)
def r04_SameMap (l0 : List PairD) (l1 : List PairD) : Bool :=
  if ((l0.length : Nat) : Int) = ((l1.length : Nat) : Int) then lp (r04_SameMap_L0 l1 l0 0) fun _ => true else false
set_option maxRecDepth 100000 in
theorem r04_SameMap_ok (w : World) (D : Nat → Prop) (A0 : Option Addr) (n0 c0 : Nat) (l0 : List PairD) (A1 : Option Addr) (n1 c1 : Nat) (l1 : List PairD) (r0 : Bool) (H : Own w D w []) (hx0 : Ro w D fun w' => Rds w' 2 A0 n0 (List.flatMap PairD.cells l0)) (hn0 : n0 = l0.length) (hl0 : l0.length ≤ 9223372036854775807) (hx1 : Ro w D fun w' => Rds w' 2 A1 n1 (List.flatMap PairD.cells l1)) (hn1 : n1 = l1.length) (hl1 : l1.length ≤ 9223372036854775807) (hr : r04_SameMap l0 l1 = r0) :
    Calls Try.prog 47 #[.slice A0 n0 c0, .slice A1 n1 c1] w (Ret fun v w' => v = .bool r0 ∧ Own w D w' []) := by
  subst hn0 hn1
  refine Calls.body (args := [.slice A0 l0.length c0, .slice A1 l1.length c1]) Try.func47 rfl rfl rfl ?_
  show Wp _ _ _ [(0, .slice A0 l0.length c0), (1, .slice A1 l1.length c1)] _ _
  refine Wp.seq (Wp.region (As rfl rfl (WL.nil (Fin.then (Wp.seq (Wp.seq (Wp.region (Mv rfl rfl (Kn (v := .int .i64 ((l0.length : Nat) : Int)) rfl rfl rfl (fun _ => by kernel_rfl) (Mv rfl rfl (Kn (v := .int .i64 ((l1.length : Nat) : Int)) rfl rfl rfl (fun _ => by kernel_rfl) (WL.val (v := .bool (decide (¬ (((l0.length : Nat) : Int) = ((l1.length : Nat) : Int))))) rfl (Yl.bool (e := !(decide (((l0.length : Nat) : Int) = ((l1.length : Nat) : Int)))) (Yl.kern rfl rfl (fun _ => by kernel_rfl)) decide_not.symm) (WL.nil (Fin.then ?_))))))))))))))
  by_cases h21 : ((l0.length : Nat) : Int) = ((l1.length : Nat) : Int)
  refine Wp.cond0 rfl (decide_eq_false (not_not_intro h21)) (Wp.skip (Fin.then (Wp.seq (Wp.seq (Wp.region (Mv rfl rfl (Kn (v := .int .i64 ((l0.length : Nat) : Int)) rfl rfl rfl (fun _ => by kernel_rfl) (Mv rfl rfl (WL.nil (Fin.then (Wp.block ?_)))))))))))
  have H24 : Own w D w [] := H.pick [] (by decide) rfl
  refine Wp.loop (ι := Nat) (fun i => [(4, .bool false), (13, .int .i64 ((i : Nat) : Int)), (12, .int .i64 ((l0.length : Nat) : Int)), (0, .slice A0 l0.length c0), (1, .slice A1 l1.length c1)]) (fun (i : Nat) w' => Own w D w' [] ∧ (i ≤ l0.length ∧ r04_SameMap_L0 l1 l0 0 = r04_SameMap_L0 l1 (List.drop i l0) i)) (fun i => l0.length - i) 0 ⟨rfl, rfl, rfl, rfl, rfl, trivial⟩ ⟨H24, (show 0 ≤ l0.length ∧ r04_SameMap_L0 l1 l0 0 = r04_SameMap_L0 l1 (List.drop 0 l0) 0 from ⟨by omega, rfl⟩)⟩ ?_
  rintro k22 w25 ⟨H26, hf27⟩
  show Wp _ _ _ [(4, .bool false), (13, .int .i64 ((k22 : Nat) : Int)), (12, .int .i64 ((l0.length : Nat) : Int)), (0, .slice A0 l0.length c0), (1, .slice A1 l1.length c1)] _ _
  replace hf27 : k22 ≤ l0.length ∧ r04_SameMap_L0 l1 l0 0 = r04_SameMap_L0 l1 (List.drop k22 l0) k22 := hf27
  obtain ⟨hi29, hq28⟩ := hf27
  refine Wp.seq (Wp.region (Kn (v := .bool (decide (((k22 : Nat) : Int) < ((l0.length : Nat) : Int)))) rfl rfl rfl (fun _ => by kernel_rfl) (WL.nil (Fin.then (Wp.seq ?_)))))
  by_cases h30 : ((k22 : Nat) : Int) < ((l0.length : Nat) : Int)
  obtain ⟨x31, hx32⟩ := rds_at (ls := l0) (i := k22) PairD.len (by decide) (H26.ro hx0) (by first | omega | (simp; done) | (simp; omega))
  have hd33 := drop_at hx32
  refine Wp.cond1 rfl (decide_eq_true h30) (Wp.skip (Fin.then (Wp.seq (Wp.block (Wp.seq (Wp.region (Mv rfl rfl (As rfl rfl (WL.nil (Fin.then (Wp.seq ?_)))))))))))
  have H35 := H26.drew
  refine Wp.drawnX [] (fun W => ∃ L', Own w D W ([] ++ L')) (by kernel_rfl) (by kernel_rfl) (NoP.then (NoP.block (NoP.then (NoP.then (NoP.block (NoP.then NoP.base)))))) ⟨_, H35⟩ ?_
  revert H35
  generalize World.drew w25 = w34
  intro H35
  refine GX.take (v := .slice A0 l0.length c0) (rs := []) 0 rfl (by kernel_rfl) (fun _ _ => Yl.move rfl) (GX.take (v := .int .i64 ((k22 : Nat) : Int)) (rs := []) 1 rfl (by kernel_rfl) (fun _ _ => Yl.move rfl) (GX.take (v := .pointer (some ⟨ab A0, ao A0 + k22 * 2, none⟩)) (rs := []) 2 rfl (by kernel_rfl) (fun _ ⟨_, H9⟩ => Yl.indexAddr (El54) rfl rfl ((H9.ro hx0).addr (i := k22) (by omega)) (by omega)) (GX.take (v := .agg (PairD.cells x31).toArray) (rs := []) 3 rfl (by kernel_rfl) (fun _ ⟨_, H9⟩ => Yl.load rfl (Lds.agg (cs := (PairD.cells x31)) Try.isAgg58 Try.sizeOf58 ((H9.ro hx0).elem PairD.len hx32 (by decide)))) (GX.take (v := .slice A1 l1.length c1) (rs := []) 4 rfl (by kernel_rfl) (fun _ _ => Yl.move rfl) (GX.take (v := .int .i64 ((k22 : Nat) : Int)) (rs := []) 5 rfl (by kernel_rfl) (fun _ _ => Yl.move rfl) ?_)))))
  obtain ⟨x36, hx37⟩ := at_of (ls := l1) (i := k22) (by first | omega | (simp; done) | (simp; omega))
  refine GX.take (v := .pointer (some ⟨ab A1, ao A1 + k22 * 2, none⟩)) (rs := []) 6 rfl (by kernel_rfl) (fun _ ⟨_, H9⟩ => Yl.indexAddr (El54) rfl rfl ((H9.ro hx1).addr (i := k22) (by omega)) (by omega)) (GX.take (v := .agg (PairD.cells x36).toArray) (rs := []) 7 rfl (by kernel_rfl) (fun _ ⟨_, H9⟩ => Yl.load rfl (Lds.agg (cs := (PairD.cells x36)) Try.isAgg58 Try.sizeOf58 ((H9.ro hx1).elem PairD.len hx37 (by decide)))) (GX.take (v := .bool (decide (¬ ((x31.xKey = x36.xKey) ∧ (x31.xValue = x36.xValue))))) (rs := []) 8 rfl (by kernel_rfl) (fun _ _ => Yl.bool (e := !(decide ((x31.xKey = x36.xKey) ∧ (x31.xValue = x36.xValue)))) (Yl.neAgg rfl rfl (by kernel_rfl) rfl (Eqv.struct Try.underlying58 (by kernel_rfl) (EqF.dec (EqF.cons (u := .string ⟨List.toArray x31.xKey⟩) (v := .string ⟨List.toArray x36.xKey⟩) (by decide) (fun _ => by kernel_rfl) (fun _ => by kernel_rfl) (Eqv.string Try.underlying9) (EqF.cons (u := .string ⟨List.toArray x31.xValue⟩) (v := .string ⟨List.toArray x36.xValue⟩) (by decide) (fun _ => by kernel_rfl) (fun _ => by kernel_rfl) (Eqv.string Try.underlying9) (EqF.nil.up (Nat.zero_le _)))) ((congrArg (decide (x31.xKey = x36.xKey) && ·) and_dec1).trans and_dec)))) decide_not.symm) (GX.done (by kernel_rfl) (Fin.then ?_))))
  by_cases h38 : (x31.xKey = x36.xKey) ∧ (x31.xValue = x36.xValue)
  refine Wp.cond0 rfl (decide_eq_false (not_not_intro h38)) (Wp.skip (Fin.blockN (Fin.then (Wp.region (WL.val (v := .int .i64 ((k22 + 1 : Nat) : Int)) rfl (Yl.int (e := IntKind.i64.wrap (((k22 : Nat) : Int) + 1)) (Yl.kern rfl rfl (fun _ => by kernel_rfl)) (by rw [IntWalk.i64_in _ (by omega)]; omega)) (Mv rfl rfl (WL.nil ?_)))))))
  have H39 := H35.pick [] (by decide) rfl
  exact Fin.round (k22 + 1) ⟨rfl, rfl, rfl, rfl, rfl, trivial⟩ ⟨H39, (show (k22 + 1) ≤ l0.length ∧ r04_SameMap_L0 l1 l0 0 = r04_SameMap_L0 l1 (List.drop (k22 + 1) l0) (k22 + 1) from ⟨by omega, Eq.trans (hq28) (Eq.trans (congrArg (fun q => r04_SameMap_L0 l1 q k22) hd33) (Eq.trans (bnd_of (getD_of hx37)) (if_pos h38)))⟩)⟩ (by show l0.length - (k22 + 1) < l0.length - k22; omega)
  refine Wp.cond1 rfl (decide_eq_true h38) (Wp.seq (Wp.region (As rfl rfl (WL.nil (Fin.then (Wp.ret (Fin.blockR (Fin.thenR (Fin.thenR (Fin.blockR (Fin.thenR (Fin.res (res1 rfl rfl) ?_))))))))))))
  have H40 := H35.pick [] (by decide) rfl
  have e : r04_SameMap l0 l1 = false := Eq.trans (if_pos h21) (lp_r (Eq.trans (hq28) (Eq.trans (congrArg (fun q => r04_SameMap_L0 l1 q k22) hd33) (Eq.trans (bnd_of (getD_of hx37)) (if_neg h38)))))
  obtain rfl := e.symm.trans hr
  exact ⟨rfl, H40⟩
  refine Wp.cond0 rfl (decide_eq_false h30) (Wp.exit (Fin.thenX ?_))
  have hL41 : r04_SameMap_L0 l1 l0 0 = Sum.inl () := Eq.trans (hq28) (Eq.trans (congrArg (fun q => r04_SameMap_L0 l1 q k22) (drop_end (ls := l0) (i := k22) (by omega))) rfl)
  refine Fin.thenX (Fin.blockX (Fin.then (Wp.seq (Wp.region (As rfl rfl (WL.nil (Fin.then (Wp.ret (Fin.res (res1 rfl rfl) ?_)))))))))
  have H42 := H26.pick [] (by decide) rfl
  have e : r04_SameMap l0 l1 = true := Eq.trans (if_pos h21) (lp_l hL41)
  obtain rfl := e.symm.trans hr
  exact ⟨rfl, H42⟩
  refine Wp.cond1 rfl (decide_eq_true h21) (Wp.seq (Wp.region (As rfl rfl (WL.nil (Fin.then (Wp.ret (Fin.thenR (Fin.res (res1 rfl rfl) ?_))))))))
  have H43 : Own w D w [] := H.pick [] (by decide) rfl
  have e : r04_SameMap l0 l1 = false := if_neg h21
  obtain rfl := e.symm.trans hr
  exact ⟨rfl, H43⟩
end Go.Proofs.Ytcjjblkgbfaapaa
