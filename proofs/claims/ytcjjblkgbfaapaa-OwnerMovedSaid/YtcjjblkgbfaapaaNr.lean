/-
  owner: the document's answer.
-/
import Derived.Test.YtcjjblkgbfaapaaNb
namespace Go.Proofs.Ytcjjblkgbfaapaa
open Go.RowKit
set_option linter.unusedVariables false
set_option linter.unusedSectionVars false
set_option linter.unusedSimpArgs false

def r02_CheckKey (p0 : List UInt8) : Int :=
  if ((List.length p0 : Nat) : Int) < 1 then 20 else if ((List.length p0 : Nat) : Int) > 12 then 20 else 0

set_option maxRecDepth 100000 in
theorem r02_CheckKey_ok (w : World) (D : Nat → Prop) (p0 : List UInt8) (r0 : Int) (H : Own w D w [])  (hr : r02_CheckKey p0 = r0) :
    Calls Try.prog 34 #[.string ⟨List.toArray p0⟩] w (Ret fun v w' => v = .int .i64 r0 ∧ Own w D w' [] ∧ (¬ (r0 = 0) ∨ (1 ≤ List.length p0 ∧ List.length p0 ≤ 12))) := by
  refine Calls.body (args := [.string ⟨List.toArray p0⟩]) Try.func34 rfl rfl rfl ?_
  show Wp _ _ _ [(0, .string ⟨List.toArray p0⟩)] _ _
  refine Wp.seq (Wp.region (As rfl rfl (WL.nil (Fin.then (Wp.seq (Wp.seq (Wp.region (Mv rfl rfl (Kn (v := .int .i64 ((List.length p0 : Nat) : Int)) rfl rfl rfl (fun _ => by kernel_rfl) (Kn (v := .bool (decide (((List.length p0 : Nat) : Int) < 1))) rfl rfl rfl (fun _ => by kernel_rfl) (Mv rfl rfl ?_)))))))))))
  by_cases h21 : ((List.length p0 : Nat) : Int) < 1
  refine Sk rfl rfl (decide_eq_true h21) rfl (Sk rfl rfl (decide_eq_true h21) rfl (Sk rfl rfl (decide_eq_true h21) rfl (WL.val (v := .bool true) rfl (Yl.pickT rfl (decide_eq_true h21) rfl) (WL.nil (Fin.then (Wp.cond1 rfl rfl (Wp.seq (Wp.region (As rfl rfl (WL.nil (Fin.then (Wp.ret (Fin.thenR (Fin.res (res1 rfl rfl) ?_))))))))))))))
  have H22 : Own w D w [] := H.pick [] (by decide) rfl
  have e : r02_CheckKey p0 = 20 := if_pos h21
  obtain rfl := e.symm.trans hr
  exact ⟨rfl, H22, (by omega)⟩
  refine WL.valG (v := .string ⟨List.toArray p0⟩) rfl rfl (decide_eq_false h21) rfl (Yl.move rfl) (WL.valG (v := .int .i64 ((List.length p0 : Nat) : Int)) rfl rfl (decide_eq_false h21) rfl (Yl.kern rfl rfl (fun _ => by kernel_rfl)) (WL.valG (v := .bool (decide (((List.length p0 : Nat) : Int) > 12))) rfl rfl (decide_eq_false h21) rfl (Yl.kern rfl rfl (fun _ => by kernel_rfl)) (WL.val (v := .bool (decide (((List.length p0 : Nat) : Int) > 12))) rfl (Yl.pickF rfl (decide_eq_false h21) rfl) (WL.nil (Fin.then ?_)))))
  by_cases h23 : ((List.length p0 : Nat) : Int) > 12
  refine Wp.cond1 rfl (decide_eq_true h23) (Wp.seq (Wp.region (As rfl rfl (WL.nil (Fin.then (Wp.ret (Fin.thenR (Fin.res (res1 rfl rfl) ?_))))))))
  have H24 : Own w D w [] := H.pick [] (by decide) rfl
  have e : r02_CheckKey p0 = 20 := Eq.trans (if_neg h21) (if_pos h23)
  obtain rfl := e.symm.trans hr
  exact ⟨rfl, H24, (by omega)⟩
  refine Wp.cond0 rfl (decide_eq_false h23) (Wp.skip (Fin.then (Wp.seq (Wp.region (As rfl rfl (WL.nil (Fin.then (Wp.ret (Fin.res (res1 rfl rfl) ?_)))))))))
  have H25 : Own w D w [] := H.pick [] (by decide) rfl
  have e : r02_CheckKey p0 = 0 := Eq.trans (if_neg h21) (if_neg h23)
  obtain rfl := e.symm.trans hr
  exact ⟨rfl, H25, (by omega)⟩

def r17_Check_L0 (l0 : List OwnerD) : List OwnerD → Nat → Unit ⊕ Int
  | [], k29 => Sum.inl ()
  | x38 :: q30, k29 => if x38.xShard < 1 then Sum.inr (170) else if x38.xShard > 4 then Sum.inr (170) else if ((k29 : Nat) : Int) > 0 then bnd (r02_CheckKey x38.xLo) fun yr58 => if yr58 = 0 then bnd (List.getD l0 (k29 - 1) default) fun yx65 => if x38.xLo ≤ yx65.xLo then Sum.inr (170) else r17_Check_L0 l0 q30 (k29 + 1) else Sum.inr (170) else r17_Check_L0 l0 q30 (k29 + 1)

def r17_Check (l0 : List OwnerD) : Int :=
  if ((List.length l0 : Nat) : Int) < 1 then 170 else if ((List.length l0 : Nat) : Int) > 6 then 170 else bnd (List.getD l0 0 default) fun yx25 => if yx25.xLo ≠ ([]) then 170 else lp (r17_Check_L0 l0 l0 0) fun _ => 0

set_option maxRecDepth 100000 in
theorem r17_Check_ok (w : World) (D : Nat → Prop) (A0 : Option Addr) (n0 c0 : Nat) (l0 : List OwnerD) (r0 : Int) (H : Own w D w []) (hx0 : Ro w D fun w' => Rds w' 2 A0 n0 (List.flatMap OwnerD.cells l0)) (hn0 : n0 = List.length l0) (hl0 : List.length l0 * 24 ≤ 211106232532992) (hr : r17_Check l0 = r0) :
    Calls Try.prog 15 #[.slice A0 n0 c0] w (Ret fun v w' => v = .int .i64 r0 ∧ Own w D w' [] ∧ (¬ (r0 = 0) ∨ (1 ≤ List.length l0 ∧ List.length l0 ≤ 6))) := by
  subst hn0
  refine Calls.body (args := [.slice A0 (List.length l0) c0]) Try.func15 rfl rfl rfl ?_
  show Wp _ _ _ [(0, .slice A0 (List.length l0) c0)] _ _
  refine Wp.seq (Wp.region (As rfl rfl (WL.nil (Fin.then (Wp.seq (Wp.seq (Wp.region (Mv rfl rfl (Kn (v := .int .i64 ((List.length l0 : Nat) : Int)) rfl rfl rfl (fun _ => by kernel_rfl) (Kn (v := .bool (decide (((List.length l0 : Nat) : Int) < 1))) rfl rfl rfl (fun _ => by kernel_rfl) (Mv rfl rfl ?_)))))))))))
  by_cases h21 : ((List.length l0 : Nat) : Int) < 1
  refine Sk rfl rfl (decide_eq_true h21) rfl (Sk rfl rfl (decide_eq_true h21) rfl (Sk rfl rfl (decide_eq_true h21) rfl (WL.val (v := .bool true) rfl (Yl.pickT rfl (decide_eq_true h21) rfl) (Mv rfl rfl (Sk rfl rfl rfl rfl (Sk rfl rfl rfl rfl (Sk rfl rfl rfl rfl (Sk rfl rfl rfl rfl (Sk rfl rfl rfl rfl (WL.val (v := .bool true) rfl (Yl.pickT rfl rfl rfl) (WL.nil (Fin.then (Wp.cond1 rfl rfl (Wp.seq (Wp.region (As rfl rfl (WL.nil (Fin.then (Wp.ret (Fin.thenR (Fin.res (res1 rfl rfl) ?_)))))))))))))))))))))
  have H22 : Own w D w [] := H.pick [] (by decide) rfl
  have e : r17_Check l0 = 170 := if_pos h21
  obtain rfl := e.symm.trans hr
  exact ⟨rfl, H22, (by omega)⟩
  refine WL.valG (v := .slice A0 (List.length l0) c0) rfl rfl (decide_eq_false h21) rfl (Yl.move rfl) (WL.valG (v := .int .i64 ((List.length l0 : Nat) : Int)) rfl rfl (decide_eq_false h21) rfl (Yl.kern rfl rfl (fun _ => by kernel_rfl)) (WL.valG (v := .bool (decide (((List.length l0 : Nat) : Int) > 6))) rfl rfl (decide_eq_false h21) rfl (Yl.kern rfl rfl (fun _ => by kernel_rfl)) (WL.val (v := .bool (decide (((List.length l0 : Nat) : Int) > 6))) rfl (Yl.pickF rfl (decide_eq_false h21) rfl) (Mv rfl rfl ?_))))
  by_cases h23 : ((List.length l0 : Nat) : Int) > 6
  refine Sk rfl rfl (decide_eq_true h23) rfl (Sk rfl rfl (decide_eq_true h23) rfl (Sk rfl rfl (decide_eq_true h23) rfl (Sk rfl rfl (decide_eq_true h23) rfl (Sk rfl rfl (decide_eq_true h23) rfl (WL.val (v := .bool true) rfl (Yl.pickT rfl (decide_eq_true h23) rfl) (WL.nil (Fin.then (Wp.cond1 rfl rfl (Wp.seq (Wp.region (As rfl rfl (WL.nil (Fin.then (Wp.ret (Fin.thenR (Fin.res (res1 rfl rfl) ?_))))))))))))))))
  have H24 : Own w D w [] := H.pick [] (by decide) rfl
  have e : r17_Check l0 = 170 := Eq.trans (if_neg h21) (if_pos h23)
  obtain rfl := e.symm.trans hr
  exact ⟨rfl, H24, (by omega)⟩
  refine WL.valG (v := .slice A0 (List.length l0) c0) rfl rfl (decide_eq_false h23) rfl (Yl.move rfl) ?_
  obtain ⟨x25, hx26⟩ := rds_at (ls := l0) (i := 0) OwnerD.len (by decide) (H.ro hx0) (by first | omega | (simp; done) | (simp; omega))
  refine WL.valG (v := .pointer (some ⟨ab A0, ao A0 + 0 * 2, none⟩)) rfl rfl (decide_eq_false h23) rfl (Yl.indexAddr (El22) rfl rfl ((H.ro hx0).addr (i := 0) (by omega)) (by omega)) (WL.valG (v := .pointer (some ⟨ab A0, ao A0 + 0 * 2, none⟩)) rfl rfl (decide_eq_false h23) rfl (Yl.kern rfl rfl (fun _ => by kernel_rfl)) (WL.valG (v := .string ⟨List.toArray x25.xLo⟩) rfl rfl (decide_eq_false h23) rfl (Yl.load rfl (Lds.one Try.isAgg9 (((H.ro hx0).elem OwnerD.len hx26 (by decide)).at_ (k := 0) rfl))) (WL.valG (v := .bool (decide (x25.xLo ≠ ([])))) rfl rfl (decide_eq_false h23) rfl (Yl.strNe rfl rfl) (WL.val (v := .bool (decide (x25.xLo ≠ ([])))) rfl (Yl.pickF rfl (decide_eq_false h23) rfl) (WL.nil (Fin.then ?_))))))
  by_cases h27 : x25.xLo ≠ ([])
  refine Wp.cond1 rfl (decide_eq_true h27) (Wp.seq (Wp.region (As rfl rfl (WL.nil (Fin.then (Wp.ret (Fin.thenR (Fin.res (res1 rfl rfl) ?_))))))))
  have H28 : Own w D w [] := H.pick [] (by decide) rfl
  have e : r17_Check l0 = 170 := Eq.trans (if_neg h21) (Eq.trans (if_neg h23) (Eq.trans (bnd_of (getD_of hx26)) (if_pos h27)))
  obtain rfl := e.symm.trans hr
  exact ⟨rfl, H28, (by omega)⟩
  refine Wp.cond0 rfl (decide_eq_false h27) (Wp.skip (Fin.then (Wp.seq (Wp.seq (Wp.region (Mv rfl rfl (Kn (v := .int .i64 ((List.length l0 : Nat) : Int)) rfl rfl rfl (fun _ => by kernel_rfl) (Mv rfl rfl (WL.nil (Fin.then (Wp.block ?_)))))))))))
  have H31 : Own w D w [] := H.pick [] (by decide) rfl
  refine Wp.loop (ι := Nat) (fun i => [(2, .int .i64 0), (22, .int .i64 ((i : Nat) : Int)), (21, .int .i64 ((List.length l0 : Nat) : Int)), (20, .slice A0 (List.length l0) c0), (0, .slice A0 (List.length l0) c0)]) (fun (i : Nat) w' => Own w D w' [] ∧ (i ≤ List.length l0 ∧ r17_Check_L0 l0 l0 0 = r17_Check_L0 l0 (List.drop i l0) i)) (fun i => List.length l0 - i) 0 ⟨rfl, rfl, rfl, rfl, rfl, trivial⟩ ⟨H31, (show 0 ≤ List.length l0 ∧ r17_Check_L0 l0 l0 0 = r17_Check_L0 l0 (List.drop 0 l0) 0 from ⟨by omega, rfl⟩)⟩ ?_
  rintro k29 w32 ⟨H33, hf34⟩
  show Wp _ _ _ [(2, .int .i64 0), (22, .int .i64 ((k29 : Nat) : Int)), (21, .int .i64 ((List.length l0 : Nat) : Int)), (20, .slice A0 (List.length l0) c0), (0, .slice A0 (List.length l0) c0)] _ _
  replace H33 : Own w D w32 [] := H33
  replace hf34 : k29 ≤ List.length l0 ∧ r17_Check_L0 l0 l0 0 = r17_Check_L0 l0 (List.drop k29 l0) k29 := hf34
  obtain ⟨hi36, hq35⟩ := hf34
  refine Wp.seq (Wp.region (Kn (v := .bool (decide (((k29 : Nat) : Int) < ((List.length l0 : Nat) : Int)))) rfl rfl rfl (fun _ => by kernel_rfl) (WL.nil (Fin.then (Wp.seq ?_)))))
  by_cases h37 : ((k29 : Nat) : Int) < ((List.length l0 : Nat) : Int)
  obtain ⟨x38, hx39⟩ := rds_at (ls := l0) (i := k29) OwnerD.len (by decide) (H33.ro hx0) (by first | omega | (simp; done) | (simp; omega))
  have hd40 := drop_at hx39
  refine Wp.cond1 rfl (decide_eq_true h37) (Wp.skip (Fin.then (Wp.seq (Wp.block (Wp.seq (Wp.region (Mv rfl rfl (WL.val (v := .pointer (some ⟨ab A0, ao A0 + k29 * 2, none⟩)) rfl (Yl.indexAddr (El22) rfl rfl ((H33.ro hx0).addr (i := k29) (by omega)) (by omega)) (WL.val (v := .agg (OwnerD.cells x38).toArray) rfl (Yl.load rfl (Lds.agg (cs := (OwnerD.cells x38)) Try.isAgg39 Try.sizeOf39 ((H33.ro hx0).elem OwnerD.len hx39 (by decide)))) ?_)))))))))
  refine WL.do rfl (Do.newP (cs := [.string ⟨List.toArray ([])⟩, .int .i64 0]) (t := 39) H33 rfl rfl (fun _ => by kernel_rfl) ?_)
  intro g41 w42 H43
  replace H43 : Own w D w42 [blk g41 [.string ⟨List.toArray ([])⟩, .int .i64 0] 39] := H43
  refine As rfl rfl ?_
  refine WL.do0 (Do.store (vs := (OwnerD.cells x38)) (o := 0) H43 rfl rfl Try.sizeOf39 rfl rfl rfl rfl ?_)
  intro w44 H45
  replace H45 : Own w D w44 [blk g41 (OwnerD.cells x38) 39] := H45
  refine WL.nil (Fin.then (Wp.seq ?_))
  have H47 := H45.drew
  refine Wp.drawnX [] (fun W => ∃ L', Own w D W ([blk g41 (OwnerD.cells x38) 39] ++ L')) (by kernel_rfl) (by kernel_rfl) (NoP.then (NoP.block (NoP.then (NoP.then (NoP.block (NoP.then NoP.base)))))) ⟨_, H47⟩ ?_
  revert H47
  generalize World.drew w44 = w46
  intro H47
  replace H47 : Own w D w46 [blk g41 (OwnerD.cells x38) 39] := H47
  refine GX.take (v := .pointer (some ⟨g41, 1, none⟩)) (rs := []) 0 rfl (by kernel_rfl) (fun _ _ => Yl.kern rfl rfl (fun _ => by kernel_rfl)) (GX.take (v := .int .i64 x38.xShard) (rs := []) 1 rfl (by kernel_rfl) (fun _ ⟨_, H9⟩ => Yl.load rfl (Lds.one Try.isAgg3 (Cls.of (H9.cls (i := 0) rfl) rfl))) (GX.take (v := .bool (decide (x38.xShard < 1))) (rs := []) 2 rfl (by kernel_rfl) (fun _ _ => Yl.kern rfl rfl (fun _ => by kernel_rfl)) (GX.take (v := .bool (decide (x38.xShard < 1))) (rs := []) 3 rfl (by kernel_rfl) (fun _ _ => Yl.move rfl) ?_)))
  by_cases h48 : x38.xShard < 1
  refine GX.skipG (rs := []) 4 rfl rfl rfl (decide_eq_true h48) (by kernel_rfl) (GX.skipG (rs := []) 5 rfl rfl rfl (decide_eq_true h48) (by kernel_rfl) (GX.skipG (rs := []) 6 rfl rfl rfl (decide_eq_true h48) (by kernel_rfl) (GX.take (v := .bool true) (rs := []) 7 rfl (by kernel_rfl) (fun _ _ => Yl.pickT rfl (decide_eq_true h48) rfl) (GX.take (v := .bool true) (rs := []) 8 rfl (by kernel_rfl) (fun _ _ => Yl.move rfl) (GX.skipG (rs := []) 9 rfl rfl rfl rfl (by kernel_rfl) (GX.skipG (rs := []) 10 rfl rfl rfl rfl (by kernel_rfl) (GX.skipG (rs := []) 11 rfl rfl rfl rfl (by kernel_rfl) (GX.skipUG (rs := []) 12 rfl rfl rfl (by kernel_rfl) (GX.skipUG (rs := []) 13 rfl rfl rfl (by kernel_rfl) (GX.skipUG (rs := []) 14 rfl rfl rfl (by kernel_rfl) (GX.skipUG (rs := []) 15 rfl rfl rfl (by kernel_rfl) (GX.skipUG (rs := []) 16 rfl rfl rfl (by kernel_rfl) (GX.skipUG (rs := []) 17 rfl rfl rfl (by kernel_rfl) (GX.skipUG (rs := []) 18 rfl rfl rfl (by kernel_rfl) (GX.skipUG (rs := []) 19 rfl rfl rfl (by kernel_rfl) (GX.skipUG (rs := []) 20 rfl rfl rfl (by kernel_rfl) (GX.skipUG (rs := []) 21 rfl rfl rfl (by kernel_rfl) (GX.skipUG (rs := []) 22 rfl rfl rfl (by kernel_rfl) (GX.skipUG (rs := []) 23 rfl rfl rfl (by kernel_rfl) (GX.skipUG (rs := []) 24 rfl rfl rfl (by kernel_rfl) (GX.skipUG (rs := []) 25 rfl rfl rfl (by kernel_rfl) (GX.skipUG (rs := []) 26 rfl rfl rfl (by kernel_rfl) (GX.skipG (rs := []) 27 rfl rfl rfl rfl (by kernel_rfl) (GX.take (v := .bool true) (rs := []) 28 rfl (by kernel_rfl) (fun _ _ => Yl.pickT rfl rfl rfl) (GX.done (by kernel_rfl) (Fin.then (Wp.cond1 rfl rfl (Wp.seq (Wp.region (As rfl rfl (WL.nil (Fin.then (Wp.ret (Fin.blockR (Fin.thenR (Fin.thenR (Fin.blockR (Fin.thenR (Fin.res (res1 rfl rfl) ?_)))))))))))))))))))))))))))))))))))))))
  have H49 : Own w D w46 [] := H47.pick [] (by decide) rfl
  have e : r17_Check l0 = 170 := Eq.trans (if_neg h21) (Eq.trans (if_neg h23) (Eq.trans (bnd_of (getD_of hx26)) (Eq.trans (if_neg h27) (lp_r (Eq.trans (hq35) (Eq.trans (congrArg (fun q => r17_Check_L0 l0 q k29) hd40) (if_pos h48)))))))
  obtain rfl := e.symm.trans hr
  exact ⟨rfl, H49, (by omega)⟩
  refine GX.takeG (v := .pointer (some ⟨g41, 1, none⟩)) (rs := []) 4 rfl rfl rfl (decide_eq_false h48) (by kernel_rfl) (fun _ _ => Yl.kern rfl rfl (fun _ => by kernel_rfl)) (GX.takeG (v := .int .i64 x38.xShard) (rs := []) 5 rfl rfl rfl (decide_eq_false h48) (by kernel_rfl) (fun _ ⟨_, H9⟩ => Yl.load rfl (Lds.one Try.isAgg3 (Cls.of (H9.cls (i := 0) rfl) rfl))) (GX.takeG (v := .bool (decide (x38.xShard > 4))) (rs := []) 6 rfl rfl rfl (decide_eq_false h48) (by kernel_rfl) (fun _ _ => Yl.kern rfl rfl (fun _ => by kernel_rfl)) (GX.take (v := .bool (decide (x38.xShard > 4))) (rs := []) 7 rfl (by kernel_rfl) (fun _ _ => Yl.pickF rfl (decide_eq_false h48) rfl) (GX.take (v := .bool (decide (x38.xShard > 4))) (rs := []) 8 rfl (by kernel_rfl) (fun _ _ => Yl.move rfl) ?_))))
  by_cases h50 : x38.xShard > 4
  refine GX.skipG (rs := []) 9 rfl rfl rfl (decide_eq_true h50) (by kernel_rfl) (GX.skipG (rs := []) 10 rfl rfl rfl (decide_eq_true h50) (by kernel_rfl) (GX.skipG (rs := []) 11 rfl rfl rfl (decide_eq_true h50) (by kernel_rfl) (GX.skipUG (rs := []) 12 rfl rfl rfl (by kernel_rfl) (GX.skipUG (rs := []) 13 rfl rfl rfl (by kernel_rfl) (GX.skipUG (rs := []) 14 rfl rfl rfl (by kernel_rfl) (GX.skipUG (rs := []) 15 rfl rfl rfl (by kernel_rfl) (GX.skipUG (rs := []) 16 rfl rfl rfl (by kernel_rfl) (GX.skipUG (rs := []) 17 rfl rfl rfl (by kernel_rfl) (GX.skipUG (rs := []) 18 rfl rfl rfl (by kernel_rfl) (GX.skipUG (rs := []) 19 rfl rfl rfl (by kernel_rfl) (GX.skipUG (rs := []) 20 rfl rfl rfl (by kernel_rfl) (GX.skipUG (rs := []) 21 rfl rfl rfl (by kernel_rfl) (GX.skipUG (rs := []) 22 rfl rfl rfl (by kernel_rfl) (GX.skipUG (rs := []) 23 rfl rfl rfl (by kernel_rfl) (GX.skipUG (rs := []) 24 rfl rfl rfl (by kernel_rfl) (GX.skipUG (rs := []) 25 rfl rfl rfl (by kernel_rfl) (GX.skipUG (rs := []) 26 rfl rfl rfl (by kernel_rfl) (GX.skipG (rs := []) 27 rfl rfl rfl (decide_eq_true h50) (by kernel_rfl) (GX.take (v := .bool true) (rs := []) 28 rfl (by kernel_rfl) (fun _ _ => Yl.pickT rfl (decide_eq_true h50) rfl) (GX.done (by kernel_rfl) (Fin.then (Wp.cond1 rfl rfl (Wp.seq (Wp.region (As rfl rfl (WL.nil (Fin.then (Wp.ret (Fin.blockR (Fin.thenR (Fin.thenR (Fin.blockR (Fin.thenR (Fin.res (res1 rfl rfl) ?_))))))))))))))))))))))))))))))))))
  have H51 : Own w D w46 [] := H47.pick [] (by decide) rfl
  have e : r17_Check l0 = 170 := Eq.trans (if_neg h21) (Eq.trans (if_neg h23) (Eq.trans (bnd_of (getD_of hx26)) (Eq.trans (if_neg h27) (lp_r (Eq.trans (hq35) (Eq.trans (congrArg (fun q => r17_Check_L0 l0 q k29) hd40) (Eq.trans (if_neg h48) (if_pos h50))))))))
  obtain rfl := e.symm.trans hr
  exact ⟨rfl, H51, (by omega)⟩
  refine GX.takeG (v := .int .i64 ((k29 : Nat) : Int)) (rs := []) 9 rfl rfl rfl (decide_eq_false h50) (by kernel_rfl) (fun _ _ => Yl.move rfl) (GX.takeG (v := .bool (decide (((k29 : Nat) : Int) > 0))) (rs := []) 10 rfl rfl rfl (decide_eq_false h50) (by kernel_rfl) (fun _ _ => Yl.kern rfl rfl (fun _ => by kernel_rfl)) (GX.takeG (v := .bool (decide (((k29 : Nat) : Int) > 0))) (rs := []) 11 rfl rfl rfl (decide_eq_false h50) (by kernel_rfl) (fun _ _ => Yl.move rfl) ?_))
  by_cases h52 : ((k29 : Nat) : Int) > 0
  refine GX.takeG (v := .pointer (some ⟨g41, 0, none⟩)) (rs := []) 12 rfl rfl rfl (decide_eq_true h52) (by kernel_rfl) (fun _ _ => Yl.kern rfl rfl (fun _ => by kernel_rfl)) (GX.takeG (v := .string ⟨List.toArray x38.xLo⟩) (rs := []) 13 rfl rfl rfl (decide_eq_true h52) (by kernel_rfl) (fun _ ⟨_, H9⟩ => Yl.load rfl (Lds.one Try.isAgg9 (Cls.of (H9.cls (i := 0) rfl) rfl))) ?_)
  obtain ⟨r58, hr59⟩ : ∃ q, r02_CheckKey x38.xLo = q := ⟨_, rfl⟩
  obtain ⟨D53, HP54, ro55, bk56, rr57⟩ := Own.enter0 H47
  refine GX.doG 14 rfl rfl rfl (decide_eq_true h52) (by kernel_rfl) (Do.call Try.call34 rfl (r02_CheckKey_ok _ _ x38.xLo r58 HP54 hr59) ?_)
  rintro _ w60 ⟨rfl, HQ61, hk63⟩
  have H62 : Own w D w60 [blk g41 (OwnerD.cells x38) 39] := bk56 _ _ HQ61
  replace hk63 : ¬ (r58 = 0) ∨ (1 ≤ List.length x38.xLo ∧ List.length x38.xLo ≤ 12) := hk63
  refine ⟨.inr ⟨_, H62⟩, ?_⟩
  refine GX.takeG (v := .bool (decide (¬ (r58 = 0)))) (rs := []) 15 rfl rfl rfl (decide_eq_true h52) (by kernel_rfl) (fun _ _ => Yl.bool (e := !(decide (r58 = 0))) (Yl.kern rfl rfl (fun _ => by kernel_rfl)) decide_not.symm) (GX.takeG (v := .bool (decide (¬ (r58 = 0)))) (rs := []) 16 rfl rfl rfl (decide_eq_true h52) (by kernel_rfl) (fun _ _ => Yl.move rfl) ?_)
  by_cases h64 : r58 = 0
  refine GX.takeG (v := .slice A0 (List.length l0) c0) (rs := []) 17 rfl rfl rfl (decide_eq_false (not_not_intro h64)) (by kernel_rfl) (fun _ _ => Yl.move rfl) (GX.takeG (v := .int .i64 ((k29 : Nat) : Int)) (rs := []) 18 rfl rfl rfl (decide_eq_false (not_not_intro h64)) (by kernel_rfl) (fun _ _ => Yl.move rfl) (GX.takeG (v := .int .i64 ((k29 - 1 : Nat) : Int)) (rs := []) 19 rfl rfl rfl (decide_eq_false (not_not_intro h64)) (by kernel_rfl) (fun _ _ => Yl.int (e := IntKind.i64.wrap (((k29 : Nat) : Int) - 1)) (Yl.kern rfl rfl (fun _ => by kernel_rfl)) (by rw [IntWalk.i64_in _ (by omega)]; omega)) ?_))
  obtain ⟨x65, hx66⟩ := at_of (ls := l0) (i := k29 - 1) (by first | omega | (simp; done) | (simp; omega))
  refine GX.takeG (v := .pointer (some ⟨ab A0, ao A0 + (k29 - 1) * 2, none⟩)) (rs := []) 20 rfl rfl rfl (decide_eq_false (not_not_intro h64)) (by kernel_rfl) (fun _ ⟨_, H9⟩ => Yl.indexAddr (El22) rfl rfl ((H9.ro hx0).addr (i := k29 - 1) (by omega)) (by omega)) (GX.takeG (v := .pointer (some ⟨ab A0, ao A0 + (k29 - 1) * 2, none⟩)) (rs := []) 21 rfl rfl rfl (decide_eq_false (not_not_intro h64)) (by kernel_rfl) (fun _ _ => Yl.kern rfl rfl (fun _ => by kernel_rfl)) (GX.takeG (v := .string ⟨List.toArray x65.xLo⟩) (rs := []) 22 rfl rfl rfl (decide_eq_false (not_not_intro h64)) (by kernel_rfl) (fun _ ⟨_, H9⟩ => Yl.load rfl (Lds.one Try.isAgg9 (((H9.ro hx0).elem OwnerD.len hx66 (by decide)).at_ (k := 0) rfl))) (GX.takeG (v := .pointer (some ⟨g41, 0, none⟩)) (rs := []) 23 rfl rfl rfl (decide_eq_false (not_not_intro h64)) (by kernel_rfl) (fun _ _ => Yl.kern rfl rfl (fun _ => by kernel_rfl)) (GX.takeG (v := .string ⟨List.toArray x38.xLo⟩) (rs := []) 24 rfl rfl rfl (decide_eq_false (not_not_intro h64)) (by kernel_rfl) (fun _ ⟨_, H9⟩ => Yl.load rfl (Lds.one Try.isAgg9 (Cls.of (H9.cls (i := 0) rfl) rfl))) (GX.takeG (v := .bool (decide (x38.xLo ≤ x65.xLo))) (rs := []) 25 rfl rfl rfl (decide_eq_false (not_not_intro h64)) (by kernel_rfl) (fun _ _ => Yl.bool (e := !(Op.bytesLess x65.xLo x38.xLo)) (Yl.strGe rfl rfl) (bl_ge _ _)) (GX.takeG (v := .bool (decide (x38.xLo ≤ x65.xLo))) (rs := []) 26 rfl rfl rfl (decide_eq_true h52) (by kernel_rfl) (fun _ _ => Yl.pickF rfl (decide_eq_false (not_not_intro h64)) rfl) (GX.takeG (v := .bool (decide (x38.xLo ≤ x65.xLo))) (rs := []) 27 rfl rfl rfl (decide_eq_false h50) (by kernel_rfl) (fun _ _ => Yl.pickT rfl (decide_eq_true h52) rfl) (GX.take (v := .bool (decide (x38.xLo ≤ x65.xLo))) (rs := []) 28 rfl (by kernel_rfl) (fun _ _ => Yl.pickF rfl (decide_eq_false h50) rfl) (GX.done (by kernel_rfl) (Fin.then ?_))))))))))
  by_cases h67 : x38.xLo ≤ x65.xLo
  refine Wp.cond1 rfl (decide_eq_true h67) (Wp.seq (Wp.region (As rfl rfl (WL.nil (Fin.then (Wp.ret (Fin.blockR (Fin.thenR (Fin.thenR (Fin.blockR (Fin.thenR (Fin.res (res1 rfl rfl) ?_))))))))))))
  have H68 : Own w D w60 [] := H62.pick [] (by decide) rfl
  have e : r17_Check l0 = 170 := Eq.trans (if_neg h21) (Eq.trans (if_neg h23) (Eq.trans (bnd_of (getD_of hx26)) (Eq.trans (if_neg h27) (lp_r (Eq.trans (hq35) (Eq.trans (congrArg (fun q => r17_Check_L0 l0 q k29) hd40) (Eq.trans (if_neg h48) (Eq.trans (if_neg h50) (Eq.trans (if_pos h52) (Eq.trans (bnd_of hr59) (Eq.trans (if_pos h64) (Eq.trans (bnd_of (getD_of hx66)) (if_pos h67)))))))))))))
  obtain rfl := e.symm.trans hr
  exact ⟨rfl, H68, (by omega)⟩
  refine Wp.cond0 rfl (decide_eq_false h67) (Wp.skip (Fin.blockN (Fin.then (Wp.region (WL.val (v := .int .i64 ((k29 + 1 : Nat) : Int)) rfl (Yl.int (e := IntKind.i64.wrap (((k29 : Nat) : Int) + 1)) (Yl.kern rfl rfl (fun _ => by kernel_rfl)) (by rw [IntWalk.i64_in _ (by omega)]; omega)) (Mv rfl rfl (WL.nil ?_)))))))
  have H69 : Own w D w60 [] := H62.pick [] (by decide) rfl
  exact Fin.round (k29 + 1) ⟨rfl, rfl, rfl, rfl, rfl, trivial⟩ ⟨H69, (show (k29 + 1) ≤ List.length l0 ∧ r17_Check_L0 l0 l0 0 = r17_Check_L0 l0 (List.drop (k29 + 1) l0) (k29 + 1) from ⟨by omega, Eq.trans (hq35) (Eq.trans (congrArg (fun q => r17_Check_L0 l0 q k29) hd40) (Eq.trans (if_neg h48) (Eq.trans (if_neg h50) (Eq.trans (if_pos h52) (Eq.trans (bnd_of hr59) (Eq.trans (if_pos h64) (Eq.trans (bnd_of (getD_of hx66)) (if_neg h67))))))))⟩)⟩ (by show List.length l0 - (k29 + 1) < List.length l0 - k29; omega)
  refine GX.skipG (rs := []) 17 rfl rfl rfl (decide_eq_true h64) (by kernel_rfl) (GX.skipG (rs := []) 18 rfl rfl rfl (decide_eq_true h64) (by kernel_rfl) (GX.skipG (rs := []) 19 rfl rfl rfl (decide_eq_true h64) (by kernel_rfl) (GX.skipG (rs := []) 20 rfl rfl rfl (decide_eq_true h64) (by kernel_rfl) (GX.skipG (rs := []) 21 rfl rfl rfl (decide_eq_true h64) (by kernel_rfl) (GX.skipG (rs := []) 22 rfl rfl rfl (decide_eq_true h64) (by kernel_rfl) (GX.skipG (rs := []) 23 rfl rfl rfl (decide_eq_true h64) (by kernel_rfl) (GX.skipG (rs := []) 24 rfl rfl rfl (decide_eq_true h64) (by kernel_rfl) (GX.skipG (rs := []) 25 rfl rfl rfl (decide_eq_true h64) (by kernel_rfl) (GX.takeG (v := .bool true) (rs := []) 26 rfl rfl rfl (decide_eq_true h52) (by kernel_rfl) (fun _ _ => Yl.pickT rfl (decide_eq_true h64) rfl) (GX.takeG (v := .bool true) (rs := []) 27 rfl rfl rfl (decide_eq_false h50) (by kernel_rfl) (fun _ _ => Yl.pickT rfl (decide_eq_true h52) rfl) (GX.take (v := .bool true) (rs := []) 28 rfl (by kernel_rfl) (fun _ _ => Yl.pickF rfl (decide_eq_false h50) rfl) (GX.done (by kernel_rfl) (Fin.then (Wp.cond1 rfl rfl (Wp.seq (Wp.region (As rfl rfl (WL.nil (Fin.then (Wp.ret (Fin.blockR (Fin.thenR (Fin.thenR (Fin.blockR (Fin.thenR (Fin.res (res1 rfl rfl) ?_))))))))))))))))))))))))))
  have H70 : Own w D w60 [] := H62.pick [] (by decide) rfl
  have e : r17_Check l0 = 170 := Eq.trans (if_neg h21) (Eq.trans (if_neg h23) (Eq.trans (bnd_of (getD_of hx26)) (Eq.trans (if_neg h27) (lp_r (Eq.trans (hq35) (Eq.trans (congrArg (fun q => r17_Check_L0 l0 q k29) hd40) (Eq.trans (if_neg h48) (Eq.trans (if_neg h50) (Eq.trans (if_pos h52) (Eq.trans (bnd_of hr59) (if_neg h64)))))))))))
  obtain rfl := e.symm.trans hr
  exact ⟨rfl, H70, (by omega)⟩
  refine GX.skipG (rs := []) 12 rfl rfl rfl (decide_eq_false h52) (by kernel_rfl) (GX.skipG (rs := []) 13 rfl rfl rfl (decide_eq_false h52) (by kernel_rfl) (GX.skipG (rs := []) 14 rfl rfl rfl (decide_eq_false h52) (by kernel_rfl) (GX.skipG (rs := []) 15 rfl rfl rfl (decide_eq_false h52) (by kernel_rfl) (GX.skipG (rs := []) 16 rfl rfl rfl (decide_eq_false h52) (by kernel_rfl) (GX.skipUG (rs := []) 17 rfl rfl rfl (by kernel_rfl) (GX.skipUG (rs := []) 18 rfl rfl rfl (by kernel_rfl) (GX.skipUG (rs := []) 19 rfl rfl rfl (by kernel_rfl) (GX.skipUG (rs := []) 20 rfl rfl rfl (by kernel_rfl) (GX.skipUG (rs := []) 21 rfl rfl rfl (by kernel_rfl) (GX.skipUG (rs := []) 22 rfl rfl rfl (by kernel_rfl) (GX.skipUG (rs := []) 23 rfl rfl rfl (by kernel_rfl) (GX.skipUG (rs := []) 24 rfl rfl rfl (by kernel_rfl) (GX.skipUG (rs := []) 25 rfl rfl rfl (by kernel_rfl) (GX.skipG (rs := []) 26 rfl rfl rfl (decide_eq_false h52) (by kernel_rfl) (GX.takeG (v := .bool false) (rs := []) 27 rfl rfl rfl (decide_eq_false h50) (by kernel_rfl) (fun _ _ => Yl.pickF rfl (decide_eq_false h52) rfl) (GX.take (v := .bool false) (rs := []) 28 rfl (by kernel_rfl) (fun _ _ => Yl.pickF rfl (decide_eq_false h50) rfl) (GX.done (by kernel_rfl) (Fin.then (Wp.cond0 rfl rfl (Wp.skip (Fin.blockN (Fin.then (Wp.region (WL.val (v := .int .i64 ((k29 + 1 : Nat) : Int)) rfl (Yl.int (e := IntKind.i64.wrap (((k29 : Nat) : Int) + 1)) (Yl.kern rfl rfl (fun _ => by kernel_rfl)) (by rw [IntWalk.i64_in _ (by omega)]; omega)) (Mv rfl rfl (WL.nil ?_))))))))))))))))))))))))))
  have H71 : Own w D w46 [] := H47.pick [] (by decide) rfl
  exact Fin.round (k29 + 1) ⟨rfl, rfl, rfl, rfl, rfl, trivial⟩ ⟨H71, (show (k29 + 1) ≤ List.length l0 ∧ r17_Check_L0 l0 l0 0 = r17_Check_L0 l0 (List.drop (k29 + 1) l0) (k29 + 1) from ⟨by omega, Eq.trans (hq35) (Eq.trans (congrArg (fun q => r17_Check_L0 l0 q k29) hd40) (Eq.trans (if_neg h48) (Eq.trans (if_neg h50) (if_neg h52))))⟩)⟩ (by show List.length l0 - (k29 + 1) < List.length l0 - k29; omega)
  refine Wp.cond0 rfl (decide_eq_false h37) (Wp.exit (Fin.thenX ?_))
  have hL72 : r17_Check_L0 l0 l0 0 = Sum.inl () := Eq.trans (hq35) (Eq.trans (congrArg (fun q => r17_Check_L0 l0 q k29) (drop_end (ls := l0) (i := k29) (by omega))) rfl)
  refine Fin.thenX (Fin.blockX (Fin.then (Wp.seq (Wp.region (As rfl rfl (WL.nil (Fin.then (Wp.ret (Fin.res (res1 rfl rfl) ?_)))))))))
  have H73 : Own w D w32 [] := H33.pick [] (by decide) rfl
  have e : r17_Check l0 = 0 := Eq.trans (if_neg h21) (Eq.trans (if_neg h23) (Eq.trans (bnd_of (getD_of hx26)) (Eq.trans (if_neg h27) (lp_l hL72))))
  obtain rfl := e.symm.trans hr
  exact ⟨rfl, H73, (by omega)⟩

def r17_Range (l0 : List OwnerD) (p1 : Int) : RangeD :=
  bnd (List.getD l0 (Int.toNat p1) default) fun yx24 => if p1 + 1 < ((List.length l0 : Nat) : Int) then bnd (List.getD l0 (Int.toNat (p1 + 1)) default) fun yx32 => RangeD.mk yx24.xLo yx32.xLo else RangeD.mk yx24.xLo ([])

set_option maxRecDepth 100000 in
theorem r17_Range_ok (w : World) (D : Nat → Prop) (A0 : Option Addr) (n0 c0 : Nat) (l0 : List OwnerD) (p1 : Int) (r0 : RangeD) (H : Own w D w []) (hx0 : Ro w D fun w' => Rds w' 2 A0 n0 (List.flatMap OwnerD.cells l0)) (hn0 : n0 = List.length l0) (hl0 : List.length l0 * 24 ≤ 211106232532992) (hh0 : 0 ≤ p1 ∧ p1 < ((List.length l0 : Nat) : Int)) (hr : r17_Range l0 p1 = r0) :
    Calls Try.prog 37 #[.slice A0 n0 c0, .int .i64 p1] w (Ret fun v w' => v = .agg (RangeD.cells r0).toArray ∧ Own w D w' []) := by
  subst hn0
  refine Calls.body (args := [.slice A0 (List.length l0) c0, .int .i64 p1]) Try.func37 rfl rfl rfl ?_
  show Wp _ _ _ [(0, .slice A0 (List.length l0) c0), (1, .int .i64 p1)] _ _
  refine Wp.seq (Wp.region ?_)
  refine WL.do rfl (Do.newP (cs := [.string ⟨List.toArray ([])⟩, .string ⟨List.toArray ([])⟩]) (t := 24) H rfl rfl (fun _ => by kernel_rfl) ?_)
  intro g21 w22 H23
  replace H23 : Own w D w22 [blk g21 [.string ⟨List.toArray ([])⟩, .string ⟨List.toArray ([])⟩] 24] := H23
  refine WL.nil (Fin.then (Wp.seq (Wp.region (Mv rfl rfl (WL.val (v := .int .i64 ((Int.toNat p1 : Nat) : Int)) rfl (Yl.int (e := p1) (Yl.move rfl) (by omega)) ?_)))))
  obtain ⟨x24, hx25⟩ := rds_at (ls := l0) (i := Int.toNat p1) OwnerD.len (by decide) (H23.ro hx0) (by first | omega | (simp; done) | (simp; omega))
  refine WL.val (v := .pointer (some ⟨ab A0, ao A0 + (Int.toNat p1) * 2, none⟩)) rfl (Yl.indexAddr (El22) rfl rfl ((H23.ro hx0).addr (i := Int.toNat p1) (by omega)) (by omega)) (Kn (v := .pointer (some ⟨ab A0, ao A0 + (Int.toNat p1) * 2, none⟩)) rfl rfl rfl (fun _ => by kernel_rfl) (WL.val (v := .string ⟨List.toArray x24.xLo⟩) rfl (Yl.load rfl (Lds.one Try.isAgg9 (((H23.ro hx0).elem OwnerD.len hx25 (by decide)).at_ (k := 0) rfl))) (Kn (v := .agg #[.string ⟨List.toArray x24.xLo⟩, .string ⟨List.toArray ([])⟩]) rfl rfl rfl (fun _ => by kernel_rfl) ?_)))
  refine WL.do rfl (Do.newP (cs := [.string ⟨List.toArray ([])⟩, .string ⟨List.toArray ([])⟩]) (t := 24) H23 rfl rfl (fun _ => by kernel_rfl) ?_)
  intro g26 w27 H28
  replace H28 : Own w D w27 [blk g26 [.string ⟨List.toArray ([])⟩, .string ⟨List.toArray ([])⟩] 24, blk g21 [.string ⟨List.toArray ([])⟩, .string ⟨List.toArray ([])⟩] 24] := H28
  refine WL.do0 (Do.store (vs := [.string ⟨List.toArray x24.xLo⟩, .string ⟨List.toArray ([])⟩]) (o := 0) H28 rfl rfl Try.sizeOf24 rfl rfl rfl rfl ?_)
  intro w29 H30
  replace H30 : Own w D w29 [blk g26 [.string ⟨List.toArray x24.xLo⟩, .string ⟨List.toArray ([])⟩] 24, blk g21 [.string ⟨List.toArray ([])⟩, .string ⟨List.toArray ([])⟩] 24] := H30
  refine WL.nil (Fin.then (Wp.seq (Wp.seq (Wp.region (Mv rfl rfl (WL.val (v := .int .i64 (p1 + 1)) rfl (Yl.int (e := IntKind.i64.wrap (p1 + 1)) (Yl.kern rfl rfl (fun _ => by kernel_rfl)) (by rw [IntWalk.i64_in _ (by omega)])) (Mv rfl rfl (Kn (v := .int .i64 ((List.length l0 : Nat) : Int)) rfl rfl rfl (fun _ => by kernel_rfl) (Kn (v := .bool (decide (p1 + 1 < ((List.length l0 : Nat) : Int)))) rfl rfl rfl (fun _ => by kernel_rfl) (WL.nil (Fin.then ?_)))))))))))
  by_cases h31 : p1 + 1 < ((List.length l0 : Nat) : Int)
  refine Wp.cond1 rfl (decide_eq_true h31) (Wp.region (Mv rfl rfl (Mv rfl rfl (WL.val (v := .int .i64 ((Int.toNat (p1 + 1) : Nat) : Int)) rfl (Yl.int (e := IntKind.i64.wrap (p1 + 1)) (Yl.kern rfl rfl (fun _ => by kernel_rfl)) (by rw [IntWalk.i64_in _ (by omega)]; omega)) ?_))))
  obtain ⟨x32, hx33⟩ := rds_at (ls := l0) (i := Int.toNat (p1 + 1)) OwnerD.len (by decide) (H30.ro hx0) (by first | omega | (simp; done) | (simp; omega))
  refine WL.val (v := .pointer (some ⟨ab A0, ao A0 + (Int.toNat (p1 + 1)) * 2, none⟩)) rfl (Yl.indexAddr (El22) rfl rfl ((H30.ro hx0).addr (i := Int.toNat (p1 + 1)) (by omega)) (by omega)) (Kn (v := .pointer (some ⟨ab A0, ao A0 + (Int.toNat (p1 + 1)) * 2, none⟩)) rfl rfl rfl (fun _ => by kernel_rfl) (WL.val (v := .string ⟨List.toArray x32.xLo⟩) rfl (Yl.load rfl (Lds.one Try.isAgg9 (((H30.ro hx0).elem OwnerD.len hx33 (by decide)).at_ (k := 0) rfl))) (Kn (v := .pointer (some ⟨g26, 1, none⟩)) rfl rfl rfl (fun _ => by kernel_rfl) ?_)))
  refine WL.do0 (Do.store (vs := [.string ⟨List.toArray x32.xLo⟩]) (o := 1) H30 rfl rfl Try.sizeOf9 rfl rfl rfl rfl ?_)
  intro w34 H35
  replace H35 : Own w D w34 [blk g26 [.string ⟨List.toArray x24.xLo⟩, .string ⟨List.toArray x32.xLo⟩] 24, blk g21 [.string ⟨List.toArray ([])⟩, .string ⟨List.toArray ([])⟩] 24] := H35
  refine WL.nil (Fin.then (Wp.seq (Wp.region (WL.val (v := .agg #[.string ⟨List.toArray x24.xLo⟩, .string ⟨List.toArray x32.xLo⟩]) rfl (Yl.load rfl (Lds.agg (cs := [.string ⟨List.toArray x24.xLo⟩, .string ⟨List.toArray x32.xLo⟩]) Try.isAgg24 Try.sizeOf24 ((H35.cls (i := 0) rfl).lit (k := 0) (m := 2) rfl))) ?_))))
  have H36 : Own w D w34 [blk g21 [.string ⟨List.toArray ([])⟩, .string ⟨List.toArray ([])⟩] 24, blk g26 [.string ⟨List.toArray x24.xLo⟩, .string ⟨List.toArray x32.xLo⟩] 24] := H35.pick [1, 0] (by decide) rfl
  refine WL.do0 (Do.store (vs := [.string ⟨List.toArray x24.xLo⟩, .string ⟨List.toArray x32.xLo⟩]) (o := 0) H36 rfl rfl Try.sizeOf24 rfl rfl rfl rfl ?_)
  intro w37 H38
  replace H38 : Own w D w37 [blk g21 [.string ⟨List.toArray x24.xLo⟩, .string ⟨List.toArray x32.xLo⟩] 24, blk g26 [.string ⟨List.toArray x24.xLo⟩, .string ⟨List.toArray x32.xLo⟩] 24] := H38
  refine WL.nil (Fin.then (Wp.ret (Fin.res (resC rfl rfl (Lds.agg (cs := [.string ⟨List.toArray x24.xLo⟩, .string ⟨List.toArray x32.xLo⟩]) Try.isAgg24 Try.sizeOf24 ((H38.cls (i := 0) rfl).lit (k := 0) (m := 2) rfl))) ?_)))
  have H39 : Own w D w37 [] := H38.pick [] (by decide) rfl
  have e : r17_Range l0 p1 = RangeD.mk x24.xLo x32.xLo := Eq.trans (bnd_of (getD_of hx25)) (Eq.trans (if_pos h31) (bnd_of (getD_of hx33)))
  obtain rfl := e.symm.trans hr
  exact ⟨rfl, H39⟩
  refine Wp.cond0 rfl (decide_eq_false h31) (Wp.skip (Fin.then (Wp.seq (Wp.region (WL.val (v := .agg #[.string ⟨List.toArray x24.xLo⟩, .string ⟨List.toArray ([])⟩]) rfl (Yl.load rfl (Lds.agg (cs := [.string ⟨List.toArray x24.xLo⟩, .string ⟨List.toArray ([])⟩]) Try.isAgg24 Try.sizeOf24 ((H30.cls (i := 0) rfl).lit (k := 0) (m := 2) rfl))) ?_)))))
  have H40 : Own w D w29 [blk g21 [.string ⟨List.toArray ([])⟩, .string ⟨List.toArray ([])⟩] 24, blk g26 [.string ⟨List.toArray x24.xLo⟩, .string ⟨List.toArray ([])⟩] 24] := H30.pick [1, 0] (by decide) rfl
  refine WL.do0 (Do.store (vs := [.string ⟨List.toArray x24.xLo⟩, .string ⟨List.toArray ([])⟩]) (o := 0) H40 rfl rfl Try.sizeOf24 rfl rfl rfl rfl ?_)
  intro w41 H42
  replace H42 : Own w D w41 [blk g21 [.string ⟨List.toArray x24.xLo⟩, .string ⟨List.toArray ([])⟩] 24, blk g26 [.string ⟨List.toArray x24.xLo⟩, .string ⟨List.toArray ([])⟩] 24] := H42
  refine WL.nil (Fin.then (Wp.ret (Fin.res (resC rfl rfl (Lds.agg (cs := [.string ⟨List.toArray x24.xLo⟩, .string ⟨List.toArray ([])⟩]) Try.isAgg24 Try.sizeOf24 ((H42.cls (i := 0) rfl).lit (k := 0) (m := 2) rfl))) ?_)))
  have H43 : Own w D w41 [] := H42.pick [] (by decide) rfl
  have e : r17_Range l0 p1 = RangeD.mk x24.xLo ([]) := Eq.trans (bnd_of (getD_of hx25)) (if_neg h31)
  obtain rfl := e.symm.trans hr
  exact ⟨rfl, H43⟩

def r17_RangeOf (l0 : List OwnerD) (p1 : Int) : RangeD × Int :=
  bnd (r17_Check l0) fun yr29 => if yr29 = 0 then if p1 < 0 then (RangeD.mk ([]) ([]), 5) else if p1 ≥ ((List.length l0 : Nat) : Int) then (RangeD.mk ([]) ([]), 5) else bnd (r17_Range l0 p1) fun yr49 => (yr49, 0) else (RangeD.mk ([]) ([]), yr29)

set_option maxRecDepth 100000 in
theorem r17_RangeOf_ok (w : World) (D : Nat → Prop) (A0 : Option Addr) (n0 c0 : Nat) (l0 : List OwnerD) (p1 : Int) (r0 : RangeD) (r1 : Int) (H : Own w D w []) (hx0 : Ro w D fun w' => Rds w' 2 A0 n0 (List.flatMap OwnerD.cells l0)) (hn0 : n0 = List.length l0) (hl0 : List.length l0 * 24 ≤ 211106232532992) (hr : r17_RangeOf l0 p1 = (r0, r1)) :
    Calls Try.prog 13 #[.slice A0 n0 c0, .int .i64 p1] w (Ret fun v w' => v = .tuple #[.agg (RangeD.cells r0).toArray, .int .i64 r1] ∧ Own w D w' [] ∧ (¬ (r1 = 0) ∨ (0 ≤ p1 ∧ p1 < ((List.length l0 : Nat) : Int) ∧ List.length l0 ≤ 6))) := by
  subst hn0
  refine Calls.body (args := [.slice A0 (List.length l0) c0, .int .i64 p1]) Try.func13 rfl rfl rfl ?_
  show Wp _ _ _ [(0, .slice A0 (List.length l0) c0), (1, .int .i64 p1)] _ _
  refine Wp.seq (Wp.region ?_)
  refine WL.do rfl (Do.newP (cs := [.string ⟨List.toArray ([])⟩, .string ⟨List.toArray ([])⟩]) (t := 24) H rfl rfl (fun _ => by kernel_rfl) ?_)
  intro g21 w22 H23
  replace H23 : Own w D w22 [blk g21 [.string ⟨List.toArray ([])⟩, .string ⟨List.toArray ([])⟩] 24] := H23
  refine As rfl rfl (WL.nil (Fin.then (Wp.seq (Wp.seq (Wp.region (Mv rfl rfl ?_))))))
  obtain ⟨r29, hr30⟩ : ∃ q, r17_Check l0 = q := ⟨_, rfl⟩
  obtain ⟨D24, HP25, ro26, bk27, rr28⟩ := Own.enter0 H23
  refine WL.do rfl (Do.call Try.call15 rfl (r17_Check_ok _ _ A0 (List.length l0) c0 l0 r29 HP25 (ro26 _ hx0) rfl (by omega) hr30) ?_)
  rintro _ w31 ⟨rfl, HQ32, hk34⟩
  have H33 : Own w D w31 [blk g21 [.string ⟨List.toArray ([])⟩, .string ⟨List.toArray ([])⟩] 24] := bk27 _ _ HQ32
  replace hk34 : ¬ (r29 = 0) ∨ (1 ≤ List.length l0 ∧ List.length l0 ≤ 6) := hk34
  refine As rfl rfl (WL.nil (Fin.then (Wp.seq (Wp.region (Mv rfl rfl (WL.val (v := .bool (decide (¬ (r29 = 0)))) rfl (Yl.bool (e := !(decide (r29 = 0))) (Yl.kern rfl rfl (fun _ => by kernel_rfl)) decide_not.symm) (WL.nil (Fin.then ?_))))))))
  by_cases h35 : r29 = 0
  refine Wp.cond0 rfl (decide_eq_false (not_not_intro h35)) (Wp.skip (Fin.then (Wp.seq (Wp.seq (Wp.region (Mv rfl rfl (Kn (v := .bool (decide (p1 < 0))) rfl rfl rfl (fun _ => by kernel_rfl) (Mv rfl rfl ?_))))))))
  by_cases h36 : p1 < 0
  refine Sk rfl rfl (decide_eq_true h36) rfl (Sk rfl rfl (decide_eq_true h36) rfl (Sk rfl rfl (decide_eq_true h36) rfl (Sk rfl rfl (decide_eq_true h36) rfl (WL.val (v := .bool true) rfl (Yl.pickT rfl (decide_eq_true h36) rfl) (WL.nil (Fin.then (Wp.cond1 rfl rfl (Wp.seq (Wp.region (Kn (v := .agg #[.string ⟨List.toArray ([])⟩, .string ⟨List.toArray ([])⟩]) rfl rfl rfl (fun _ => by kernel_rfl) ?_))))))))))
  refine WL.do0 (Do.store (vs := [.string ⟨List.toArray ([])⟩, .string ⟨List.toArray ([])⟩]) (o := 0) H33 rfl rfl Try.sizeOf24 rfl rfl rfl rfl ?_)
  intro w37 H38
  replace H38 : Own w D w37 [blk g21 [.string ⟨List.toArray ([])⟩, .string ⟨List.toArray ([])⟩] 24] := H38
  refine As rfl rfl (WL.nil (Fin.then (Wp.ret (Fin.thenR (Fin.res (resN (vs := [.agg #[.string ⟨List.toArray ([])⟩, .string ⟨List.toArray ([])⟩], .int .i64 5]) rfl (ResV.cell rfl (Lds.agg (cs := [.string ⟨List.toArray ([])⟩, .string ⟨List.toArray ([])⟩]) Try.isAgg24 Try.sizeOf24 ((H38.cls (i := 0) rfl).lit (k := 0) (m := 2) rfl)) (ResV.tmp rfl ResV.nil)) (Nat.le_of_ble_eq_true rfl)) ?_)))))
  have H39 : Own w D w37 [] := H38.pick [] (by decide) rfl
  have e : r17_RangeOf l0 p1 = (RangeD.mk ([]) ([]), 5) := Eq.trans (bnd_of hr30) (Eq.trans (if_pos h35) (if_pos h36))
  obtain ⟨rfl, rfl⟩ := pj2 (e.symm.trans hr)
  exact ⟨rfl, H39, (by omega)⟩
  refine WL.valG (v := .int .i64 p1) rfl rfl (decide_eq_false h36) rfl (Yl.move rfl) (WL.valG (v := .slice A0 (List.length l0) c0) rfl rfl (decide_eq_false h36) rfl (Yl.move rfl) (WL.valG (v := .int .i64 ((List.length l0 : Nat) : Int)) rfl rfl (decide_eq_false h36) rfl (Yl.kern rfl rfl (fun _ => by kernel_rfl)) (WL.valG (v := .bool (decide (p1 ≥ ((List.length l0 : Nat) : Int)))) rfl rfl (decide_eq_false h36) rfl (Yl.kern rfl rfl (fun _ => by kernel_rfl)) (WL.val (v := .bool (decide (p1 ≥ ((List.length l0 : Nat) : Int)))) rfl (Yl.pickF rfl (decide_eq_false h36) rfl) (WL.nil (Fin.then ?_))))))
  by_cases h40 : p1 ≥ ((List.length l0 : Nat) : Int)
  refine Wp.cond1 rfl (decide_eq_true h40) (Wp.seq (Wp.region (Kn (v := .agg #[.string ⟨List.toArray ([])⟩, .string ⟨List.toArray ([])⟩]) rfl rfl rfl (fun _ => by kernel_rfl) ?_)))
  refine WL.do0 (Do.store (vs := [.string ⟨List.toArray ([])⟩, .string ⟨List.toArray ([])⟩]) (o := 0) H33 rfl rfl Try.sizeOf24 rfl rfl rfl rfl ?_)
  intro w41 H42
  replace H42 : Own w D w41 [blk g21 [.string ⟨List.toArray ([])⟩, .string ⟨List.toArray ([])⟩] 24] := H42
  refine As rfl rfl (WL.nil (Fin.then (Wp.ret (Fin.thenR (Fin.res (resN (vs := [.agg #[.string ⟨List.toArray ([])⟩, .string ⟨List.toArray ([])⟩], .int .i64 5]) rfl (ResV.cell rfl (Lds.agg (cs := [.string ⟨List.toArray ([])⟩, .string ⟨List.toArray ([])⟩]) Try.isAgg24 Try.sizeOf24 ((H42.cls (i := 0) rfl).lit (k := 0) (m := 2) rfl)) (ResV.tmp rfl ResV.nil)) (Nat.le_of_ble_eq_true rfl)) ?_)))))
  have H43 : Own w D w41 [] := H42.pick [] (by decide) rfl
  have e : r17_RangeOf l0 p1 = (RangeD.mk ([]) ([]), 5) := Eq.trans (bnd_of hr30) (Eq.trans (if_pos h35) (Eq.trans (if_neg h36) (if_pos h40)))
  obtain ⟨rfl, rfl⟩ := pj2 (e.symm.trans hr)
  exact ⟨rfl, H43, (by omega)⟩
  refine Wp.cond0 rfl (decide_eq_false h40) (Wp.skip (Fin.then (Wp.seq (Wp.region (Mv rfl rfl (Mv rfl rfl ?_))))))
  obtain ⟨r49, hr50⟩ : ∃ q, r17_Range l0 p1 = q := ⟨_, rfl⟩
  obtain ⟨D44, HP45, ro46, bk47, rr48⟩ := Own.enter0 H33
  refine WL.do rfl (Do.call Try.call37 rfl (r17_Range_ok _ _ A0 (List.length l0) c0 l0 p1 r49 HP45 (ro46 _ hx0) rfl (by omega) (by omega) hr50) ?_)
  rintro _ w51 ⟨rfl, HQ52⟩
  have H53 : Own w D w51 [blk g21 [.string ⟨List.toArray ([])⟩, .string ⟨List.toArray ([])⟩] 24] := bk47 _ _ HQ52
  refine WL.do0 (Do.store (vs := (RangeD.cells r49)) (o := 0) H53 rfl rfl Try.sizeOf24 rfl rfl rfl rfl ?_)
  intro w54 H55
  replace H55 : Own w D w54 [blk g21 (RangeD.cells r49) 24] := H55
  refine As rfl rfl (WL.nil (Fin.then (Wp.ret (Fin.res (resN (vs := [.agg (RangeD.cells r49).toArray, .int .i64 0]) rfl (ResV.cell rfl (Lds.agg (cs := (RangeD.cells r49)) Try.isAgg24 Try.sizeOf24 ((H55.cls (i := 0) rfl).lit (k := 0) (m := 2) rfl)) (ResV.tmp rfl ResV.nil)) (Nat.le_of_ble_eq_true rfl)) ?_))))
  have H56 : Own w D w54 [] := H55.pick [] (by decide) rfl
  have e : r17_RangeOf l0 p1 = (r49, 0) := Eq.trans (bnd_of hr30) (Eq.trans (if_pos h35) (Eq.trans (if_neg h36) (Eq.trans (if_neg h40) (bnd_of hr50))))
  obtain ⟨rfl, rfl⟩ := pj2 (e.symm.trans hr)
  exact ⟨rfl, H56, (by omega)⟩
  refine Wp.cond1 rfl (decide_eq_true h35) (Wp.seq (Wp.region (Kn (v := .agg #[.string ⟨List.toArray ([])⟩, .string ⟨List.toArray ([])⟩]) rfl rfl rfl (fun _ => by kernel_rfl) (Mv rfl rfl ?_))))
  refine WL.do0 (Do.store (vs := [.string ⟨List.toArray ([])⟩, .string ⟨List.toArray ([])⟩]) (o := 0) H33 rfl rfl Try.sizeOf24 rfl rfl rfl rfl ?_)
  intro w57 H58
  replace H58 : Own w D w57 [blk g21 [.string ⟨List.toArray ([])⟩, .string ⟨List.toArray ([])⟩] 24] := H58
  refine As rfl rfl (WL.nil (Fin.then (Wp.ret (Fin.thenR (Fin.res (resN (vs := [.agg #[.string ⟨List.toArray ([])⟩, .string ⟨List.toArray ([])⟩], .int .i64 r29]) rfl (ResV.cell rfl (Lds.agg (cs := [.string ⟨List.toArray ([])⟩, .string ⟨List.toArray ([])⟩]) Try.isAgg24 Try.sizeOf24 ((H58.cls (i := 0) rfl).lit (k := 0) (m := 2) rfl)) (ResV.tmp rfl ResV.nil)) (Nat.le_of_ble_eq_true rfl)) ?_)))))
  have H59 : Own w D w57 [] := H58.pick [] (by decide) rfl
  have e : r17_RangeOf l0 p1 = (RangeD.mk ([]) ([]), r29) := Eq.trans (bnd_of hr30) (if_neg h35)
  obtain ⟨rfl, rfl⟩ := pj2 (e.symm.trans hr)
  exact ⟨rfl, H59, (by omega)⟩

def r02_Check (p0 : RangeD) : Int :=
  if ((List.length p0.xLo : Nat) : Int) > 12 then 21 else if ((List.length p0.xHi : Nat) : Int) > 12 then 21 else if p0.xHi ≠ ([]) then if p0.xHi ≤ p0.xLo then 21 else 0 else 0

set_option maxRecDepth 100000 in
theorem r02_Check_ok (w : World) (D : Nat → Prop) (p0 : RangeD) (r0 : Int) (H : Own w D w [])  (hr : r02_Check p0 = r0) :
    Calls Try.prog 40 #[.agg (RangeD.cells p0).toArray] w (Ret fun v w' => v = .int .i64 r0 ∧ Own w D w' []) := by
  refine Calls.body (args := [.agg (RangeD.cells p0).toArray]) Try.func40 rfl rfl rfl ?_
  show Wp _ _ _ [(0, .agg (RangeD.cells p0).toArray)] _ _
  refine Wp.seq (Wp.region ?_)
  refine WL.do rfl (Do.newP (cs := (RangeD.cells p0)) (t := 24) H rfl rfl (fun _ => by kernel_rfl) ?_)
  intro g21 w22 H23
  replace H23 : Own w D w22 [blk g21 (RangeD.cells p0) 24] := H23
  refine As rfl rfl (WL.nil (Fin.then (Wp.seq (Wp.seq (Wp.region (Kn (v := .pointer (some ⟨g21, 0, none⟩)) rfl rfl rfl (fun _ => by kernel_rfl) (WL.val (v := .string ⟨List.toArray p0.xLo⟩) rfl (Yl.load rfl (Lds.one Try.isAgg9 (Cls.of (H23.cls (i := 0) rfl) rfl))) (Kn (v := .int .i64 ((List.length p0.xLo : Nat) : Int)) rfl rfl rfl (fun _ => by kernel_rfl) (Kn (v := .bool (decide (((List.length p0.xLo : Nat) : Int) > 12))) rfl rfl rfl (fun _ => by kernel_rfl) (Mv rfl rfl ?_))))))))))
  by_cases h24 : ((List.length p0.xLo : Nat) : Int) > 12
  refine Sk rfl rfl (decide_eq_true h24) rfl (Sk rfl rfl (decide_eq_true h24) rfl (Sk rfl rfl (decide_eq_true h24) rfl (Sk rfl rfl (decide_eq_true h24) rfl (WL.val (v := .bool true) rfl (Yl.pickT rfl (decide_eq_true h24) rfl) (Mv rfl rfl (Sk rfl rfl rfl rfl (Sk rfl rfl rfl rfl (Sk rfl rfl rfl rfl (Sk rfl rfl rfl rfl (WL.skipU rfl rfl rfl (WL.skipU rfl rfl rfl (WL.skipU rfl rfl rfl (WL.skipU rfl rfl rfl (WL.skipU rfl rfl rfl (Sk rfl rfl rfl rfl (WL.val (v := .bool true) rfl (Yl.pickT rfl rfl rfl) (WL.nil (Fin.then (Wp.cond1 rfl rfl (Wp.seq (Wp.region (As rfl rfl (WL.nil (Fin.then (Wp.ret (Fin.thenR (Fin.res (res1 rfl rfl) ?_)))))))))))))))))))))))))))
  have H25 : Own w D w22 [] := H23.pick [] (by decide) rfl
  have e : r02_Check p0 = 21 := if_pos h24
  obtain rfl := e.symm.trans hr
  exact ⟨rfl, H25⟩
  refine WL.valG (v := .pointer (some ⟨g21, 1, none⟩)) rfl rfl (decide_eq_false h24) rfl (Yl.kern rfl rfl (fun _ => by kernel_rfl)) (WL.valG (v := .string ⟨List.toArray p0.xHi⟩) rfl rfl (decide_eq_false h24) rfl (Yl.load rfl (Lds.one Try.isAgg9 (Cls.of (H23.cls (i := 0) rfl) rfl))) (WL.valG (v := .int .i64 ((List.length p0.xHi : Nat) : Int)) rfl rfl (decide_eq_false h24) rfl (Yl.kern rfl rfl (fun _ => by kernel_rfl)) (WL.valG (v := .bool (decide (((List.length p0.xHi : Nat) : Int) > 12))) rfl rfl (decide_eq_false h24) rfl (Yl.kern rfl rfl (fun _ => by kernel_rfl)) (WL.val (v := .bool (decide (((List.length p0.xHi : Nat) : Int) > 12))) rfl (Yl.pickF rfl (decide_eq_false h24) rfl) (Mv rfl rfl ?_)))))
  by_cases h26 : ((List.length p0.xHi : Nat) : Int) > 12
  refine Sk rfl rfl (decide_eq_true h26) rfl (Sk rfl rfl (decide_eq_true h26) rfl (Sk rfl rfl (decide_eq_true h26) rfl (Sk rfl rfl (decide_eq_true h26) rfl (WL.skipU rfl rfl rfl (WL.skipU rfl rfl rfl (WL.skipU rfl rfl rfl (WL.skipU rfl rfl rfl (WL.skipU rfl rfl rfl (Sk rfl rfl (decide_eq_true h26) rfl (WL.val (v := .bool true) rfl (Yl.pickT rfl (decide_eq_true h26) rfl) (WL.nil (Fin.then (Wp.cond1 rfl rfl (Wp.seq (Wp.region (As rfl rfl (WL.nil (Fin.then (Wp.ret (Fin.thenR (Fin.res (res1 rfl rfl) ?_)))))))))))))))))))))
  have H27 : Own w D w22 [] := H23.pick [] (by decide) rfl
  have e : r02_Check p0 = 21 := Eq.trans (if_neg h24) (if_pos h26)
  obtain rfl := e.symm.trans hr
  exact ⟨rfl, H27⟩
  refine WL.valG (v := .pointer (some ⟨g21, 1, none⟩)) rfl rfl (decide_eq_false h26) rfl (Yl.kern rfl rfl (fun _ => by kernel_rfl)) (WL.valG (v := .string ⟨List.toArray p0.xHi⟩) rfl rfl (decide_eq_false h26) rfl (Yl.load rfl (Lds.one Try.isAgg9 (Cls.of (H23.cls (i := 0) rfl) rfl))) (WL.valG (v := .bool (decide (p0.xHi ≠ ([])))) rfl rfl (decide_eq_false h26) rfl (Yl.strNe rfl rfl) (WL.valG (v := .bool (decide (p0.xHi ≠ ([])))) rfl rfl (decide_eq_false h26) rfl (Yl.move rfl) ?_)))
  by_cases h28 : p0.xHi ≠ ([])
  refine WL.valG (v := .pointer (some ⟨g21, 0, none⟩)) rfl rfl (decide_eq_true h28) rfl (Yl.kern rfl rfl (fun _ => by kernel_rfl)) (WL.valG (v := .string ⟨List.toArray p0.xLo⟩) rfl rfl (decide_eq_true h28) rfl (Yl.load rfl (Lds.one Try.isAgg9 (Cls.of (H23.cls (i := 0) rfl) rfl))) (WL.valG (v := .pointer (some ⟨g21, 1, none⟩)) rfl rfl (decide_eq_true h28) rfl (Yl.kern rfl rfl (fun _ => by kernel_rfl)) (WL.valG (v := .string ⟨List.toArray p0.xHi⟩) rfl rfl (decide_eq_true h28) rfl (Yl.load rfl (Lds.one Try.isAgg9 (Cls.of (H23.cls (i := 0) rfl) rfl))) (WL.valG (v := .bool (decide (p0.xHi ≤ p0.xLo))) rfl rfl (decide_eq_true h28) rfl (Yl.bool (e := !(Op.bytesLess p0.xLo p0.xHi)) (Yl.strGe rfl rfl) (bl_ge _ _)) (WL.valG (v := .bool (decide (p0.xHi ≤ p0.xLo))) rfl rfl (decide_eq_false h26) rfl (Yl.pickT rfl (decide_eq_true h28) rfl) (WL.val (v := .bool (decide (p0.xHi ≤ p0.xLo))) rfl (Yl.pickF rfl (decide_eq_false h26) rfl) (WL.nil (Fin.then ?_))))))))
  by_cases h29 : p0.xHi ≤ p0.xLo
  refine Wp.cond1 rfl (decide_eq_true h29) (Wp.seq (Wp.region (As rfl rfl (WL.nil (Fin.then (Wp.ret (Fin.thenR (Fin.res (res1 rfl rfl) ?_))))))))
  have H30 : Own w D w22 [] := H23.pick [] (by decide) rfl
  have e : r02_Check p0 = 21 := Eq.trans (if_neg h24) (Eq.trans (if_neg h26) (Eq.trans (if_pos h28) (if_pos h29)))
  obtain rfl := e.symm.trans hr
  exact ⟨rfl, H30⟩
  refine Wp.cond0 rfl (decide_eq_false h29) (Wp.skip (Fin.then (Wp.seq (Wp.region (As rfl rfl (WL.nil (Fin.then (Wp.ret (Fin.res (res1 rfl rfl) ?_)))))))))
  have H31 : Own w D w22 [] := H23.pick [] (by decide) rfl
  have e : r02_Check p0 = 0 := Eq.trans (if_neg h24) (Eq.trans (if_neg h26) (Eq.trans (if_pos h28) (if_neg h29)))
  obtain rfl := e.symm.trans hr
  exact ⟨rfl, H31⟩
  refine Sk rfl rfl (decide_eq_false h28) rfl (Sk rfl rfl (decide_eq_false h28) rfl (Sk rfl rfl (decide_eq_false h28) rfl (Sk rfl rfl (decide_eq_false h28) rfl (Sk rfl rfl (decide_eq_false h28) rfl (WL.valG (v := .bool false) rfl rfl (decide_eq_false h26) rfl (Yl.pickF rfl (decide_eq_false h28) rfl) (WL.val (v := .bool false) rfl (Yl.pickF rfl (decide_eq_false h26) rfl) (WL.nil (Fin.then (Wp.cond0 rfl rfl (Wp.skip (Fin.then (Wp.seq (Wp.region (As rfl rfl (WL.nil (Fin.then (Wp.ret (Fin.res (res1 rfl rfl) ?_))))))))))))))))))
  have H32 : Own w D w22 [] := H23.pick [] (by decide) rfl
  have e : r02_Check p0 = 0 := Eq.trans (if_neg h24) (Eq.trans (if_neg h26) (if_neg h28))
  obtain rfl := e.symm.trans hr
  exact ⟨rfl, H32⟩

def r02_Has (p0 : RangeD) (p1 : List UInt8) : Bool :=
  bnd (r02_Check p0) fun yr29 => if yr29 = 0 then bnd (r02_CheckKey p1) fun yr40 => if yr40 = 0 then if p0.xLo ≤ p1 then if p0.xHi = ([]) then true else decide (p1 < p0.xHi) else false else false else false

set_option maxRecDepth 100000 in
theorem r02_Has_ok (w : World) (D : Nat → Prop) (p0 : RangeD) (p1 : List UInt8) (r0 : Bool) (H : Own w D w [])  (hr : r02_Has p0 p1 = r0) :
    Calls Try.prog 56 #[.agg (RangeD.cells p0).toArray, .string ⟨List.toArray p1⟩] w (Ret fun v w' => v = .bool r0 ∧ Own w D w' []) := by
  refine Calls.body (args := [.agg (RangeD.cells p0).toArray, .string ⟨List.toArray p1⟩]) Try.func56 rfl rfl rfl ?_
  show Wp _ _ _ [(0, .agg (RangeD.cells p0).toArray), (1, .string ⟨List.toArray p1⟩)] _ _
  refine Wp.seq (Wp.region ?_)
  refine WL.do rfl (Do.newP (cs := (RangeD.cells p0)) (t := 24) H rfl rfl (fun _ => by kernel_rfl) ?_)
  intro g21 w22 H23
  replace H23 : Own w D w22 [blk g21 (RangeD.cells p0) 24] := H23
  refine As rfl rfl (WL.nil (Fin.then (Wp.seq (Wp.region (WL.val (v := .agg (RangeD.cells p0).toArray) rfl (Yl.load rfl (Lds.agg (cs := (RangeD.cells p0)) Try.isAgg24 Try.sizeOf24 ((H23.cls (i := 0) rfl).lit (k := 0) (m := 2) rfl))) ?_)))))
  obtain ⟨r29, hr30⟩ : ∃ q, r02_Check p0 = q := ⟨_, rfl⟩
  obtain ⟨D24, HP25, ro26, bk27, rr28⟩ := Own.enter0 H23
  refine WL.do rfl (Do.call Try.call40 rfl (r02_Check_ok _ _ p0 r29 HP25 hr30) ?_)
  rintro _ w31 ⟨rfl, HQ32⟩
  have H33 : Own w D w31 [blk g21 (RangeD.cells p0) 24] := bk27 _ _ HQ32
  refine Kn (v := .bool (decide (r29 = 0))) rfl rfl rfl (fun _ => by kernel_rfl) (Mv rfl rfl ?_)
  by_cases h34 : r29 = 0
  refine WL.valG (v := .string ⟨List.toArray p1⟩) rfl rfl (decide_eq_true h34) rfl (Yl.move rfl) ?_
  obtain ⟨r40, hr41⟩ : ∃ q, r02_CheckKey p1 = q := ⟨_, rfl⟩
  obtain ⟨D35, HP36, ro37, bk38, rr39⟩ := Own.enter0 H33
  refine WL.doG rfl rfl (decide_eq_true h34) rfl (Do.call Try.call34 rfl (r02_CheckKey_ok _ _ p1 r40 HP36 hr41) ?_)
  rintro _ w42 ⟨rfl, HQ43, hk45⟩
  have H44 : Own w D w42 [blk g21 (RangeD.cells p0) 24] := bk38 _ _ HQ43
  replace hk45 : ¬ (r40 = 0) ∨ (1 ≤ List.length p1 ∧ List.length p1 ≤ 12) := hk45
  refine WL.valG (v := .bool (decide (r40 = 0))) rfl rfl (decide_eq_true h34) rfl (Yl.kern rfl rfl (fun _ => by kernel_rfl)) (WL.val (v := .bool (decide (r40 = 0))) rfl (Yl.pickT rfl (decide_eq_true h34) rfl) (Mv rfl rfl ?_))
  by_cases h46 : r40 = 0
  refine WL.valG (v := .string ⟨List.toArray p1⟩) rfl rfl (decide_eq_true h46) rfl (Yl.move rfl) (WL.valG (v := .pointer (some ⟨g21, 0, none⟩)) rfl rfl (decide_eq_true h46) rfl (Yl.kern rfl rfl (fun _ => by kernel_rfl)) (WL.valG (v := .string ⟨List.toArray p0.xLo⟩) rfl rfl (decide_eq_true h46) rfl (Yl.load rfl (Lds.one Try.isAgg9 (Cls.of (H44.cls (i := 0) rfl) rfl))) (WL.valG (v := .bool (decide (p0.xLo ≤ p1))) rfl rfl (decide_eq_true h46) rfl (Yl.bool (e := !(Op.bytesLess p1 p0.xLo)) (Yl.strGe rfl rfl) (bl_ge _ _)) (WL.val (v := .bool (decide (p0.xLo ≤ p1))) rfl (Yl.pickT rfl (decide_eq_true h46) rfl) (Mv rfl rfl ?_)))))
  by_cases h47 : p0.xLo ≤ p1
  refine WL.valG (v := .pointer (some ⟨g21, 1, none⟩)) rfl rfl (decide_eq_true h47) rfl (Yl.kern rfl rfl (fun _ => by kernel_rfl)) (WL.valG (v := .string ⟨List.toArray p0.xHi⟩) rfl rfl (decide_eq_true h47) rfl (Yl.load rfl (Lds.one Try.isAgg9 (Cls.of (H44.cls (i := 0) rfl) rfl))) (WL.valG (v := .bool (decide (p0.xHi = ([])))) rfl rfl (decide_eq_true h47) rfl (Yl.strEq rfl rfl) (WL.valG (v := .bool (decide (p0.xHi = ([])))) rfl rfl (decide_eq_true h47) rfl (Yl.move rfl) ?_)))
  by_cases h48 : p0.xHi = ([])
  refine Sk rfl rfl (decide_eq_true h48) rfl (Sk rfl rfl (decide_eq_true h48) rfl (Sk rfl rfl (decide_eq_true h48) rfl (Sk rfl rfl (decide_eq_true h48) rfl (WL.valG (v := .bool true) rfl rfl (decide_eq_true h47) rfl (Yl.pickT rfl (decide_eq_true h48) rfl) (WL.val (v := .bool true) rfl (Yl.pickT rfl (decide_eq_true h47) rfl) (As rfl rfl (WL.nil (Fin.then (Wp.ret (Fin.res (res1 rfl rfl) ?_))))))))))
  have H49 : Own w D w42 [] := H44.pick [] (by decide) rfl
  have e : r02_Has p0 p1 = true := Eq.trans (bnd_of hr30) (Eq.trans (if_pos h34) (Eq.trans (bnd_of hr41) (Eq.trans (if_pos h46) (Eq.trans (if_pos h47) (if_pos h48)))))
  obtain rfl := e.symm.trans hr
  exact ⟨rfl, H49⟩
  refine WL.valG (v := .string ⟨List.toArray p1⟩) rfl rfl (decide_eq_false h48) rfl (Yl.move rfl) (WL.valG (v := .pointer (some ⟨g21, 1, none⟩)) rfl rfl (decide_eq_false h48) rfl (Yl.kern rfl rfl (fun _ => by kernel_rfl)) (WL.valG (v := .string ⟨List.toArray p0.xHi⟩) rfl rfl (decide_eq_false h48) rfl (Yl.load rfl (Lds.one Try.isAgg9 (Cls.of (H44.cls (i := 0) rfl) rfl))) (WL.valG (v := .bool (decide (p1 < p0.xHi))) rfl rfl (decide_eq_false h48) rfl (Yl.bool (e := Op.bytesLess p1 p0.xHi) (Yl.strLt rfl rfl) (bl_lt _ _)) (WL.valG (v := .bool (decide (p1 < p0.xHi))) rfl rfl (decide_eq_true h47) rfl (Yl.pickF rfl (decide_eq_false h48) rfl) (WL.val (v := .bool (decide (p1 < p0.xHi))) rfl (Yl.pickT rfl (decide_eq_true h47) rfl) (As rfl rfl (WL.nil (Fin.then (Wp.ret (Fin.res (res1 rfl rfl) ?_))))))))))
  have H50 : Own w D w42 [] := H44.pick [] (by decide) rfl
  have e : r02_Has p0 p1 = decide (p1 < p0.xHi) := Eq.trans (bnd_of hr30) (Eq.trans (if_pos h34) (Eq.trans (bnd_of hr41) (Eq.trans (if_pos h46) (Eq.trans (if_pos h47) (if_neg h48)))))
  obtain rfl := e.symm.trans hr
  exact ⟨rfl, H50⟩
  refine Sk rfl rfl (decide_eq_false h47) rfl (Sk rfl rfl (decide_eq_false h47) rfl (Sk rfl rfl (decide_eq_false h47) rfl (Sk rfl rfl (decide_eq_false h47) rfl (WL.skipU rfl rfl rfl (WL.skipU rfl rfl rfl (WL.skipU rfl rfl rfl (WL.skipU rfl rfl rfl (Sk rfl rfl (decide_eq_false h47) rfl (WL.val (v := .bool false) rfl (Yl.pickF rfl (decide_eq_false h47) rfl) (As rfl rfl (WL.nil (Fin.then (Wp.ret (Fin.res (res1 rfl rfl) ?_))))))))))))))
  have H51 : Own w D w42 [] := H44.pick [] (by decide) rfl
  have e : r02_Has p0 p1 = false := Eq.trans (bnd_of hr30) (Eq.trans (if_pos h34) (Eq.trans (bnd_of hr41) (Eq.trans (if_pos h46) (if_neg h47))))
  obtain rfl := e.symm.trans hr
  exact ⟨rfl, H51⟩
  refine Sk rfl rfl (decide_eq_false h46) rfl (Sk rfl rfl (decide_eq_false h46) rfl (Sk rfl rfl (decide_eq_false h46) rfl (Sk rfl rfl (decide_eq_false h46) rfl (WL.val (v := .bool false) rfl (Yl.pickF rfl (decide_eq_false h46) rfl) (Mv rfl rfl (Sk rfl rfl rfl rfl (Sk rfl rfl rfl rfl (Sk rfl rfl rfl rfl (Sk rfl rfl rfl rfl (WL.skipU rfl rfl rfl (WL.skipU rfl rfl rfl (WL.skipU rfl rfl rfl (WL.skipU rfl rfl rfl (Sk rfl rfl rfl rfl (WL.val (v := .bool false) rfl (Yl.pickF rfl rfl rfl) (As rfl rfl (WL.nil (Fin.then (Wp.ret (Fin.res (res1 rfl rfl) ?_))))))))))))))))))))
  have H52 : Own w D w42 [] := H44.pick [] (by decide) rfl
  have e : r02_Has p0 p1 = false := Eq.trans (bnd_of hr30) (Eq.trans (if_pos h34) (Eq.trans (bnd_of hr41) (if_neg h46)))
  obtain rfl := e.symm.trans hr
  exact ⟨rfl, H52⟩
  refine Sk rfl rfl (decide_eq_false h34) rfl (Sk rfl rfl (decide_eq_false h34) rfl (Sk rfl rfl (decide_eq_false h34) rfl (WL.val (v := .bool false) rfl (Yl.pickF rfl (decide_eq_false h34) rfl) (Mv rfl rfl (Sk rfl rfl rfl rfl (Sk rfl rfl rfl rfl (Sk rfl rfl rfl rfl (Sk rfl rfl rfl rfl (WL.val (v := .bool false) rfl (Yl.pickF rfl rfl rfl) (Mv rfl rfl (Sk rfl rfl rfl rfl (Sk rfl rfl rfl rfl (Sk rfl rfl rfl rfl (Sk rfl rfl rfl rfl (WL.skipU rfl rfl rfl (WL.skipU rfl rfl rfl (WL.skipU rfl rfl rfl (WL.skipU rfl rfl rfl (Sk rfl rfl rfl rfl (WL.val (v := .bool false) rfl (Yl.pickF rfl rfl rfl) (As rfl rfl (WL.nil (Fin.then (Wp.ret (Fin.res (res1 rfl rfl) ?_)))))))))))))))))))))))))
  have H53 : Own w D w31 [] := H33.pick [] (by decide) rfl
  have e : r02_Has p0 p1 = false := Eq.trans (bnd_of hr30) (if_neg h34)
  obtain rfl := e.symm.trans hr
  exact ⟨rfl, H53⟩

def r17_at_L0 (l0 : List OwnerD) (p1 : List UInt8) : Nat → Nat → Unit ⊕ Int
  | 0, k21 => Sum.inl ()
  | q22 + 1, k21 => bnd (r17_Range l0 ((k21 : Nat) : Int)) fun yr35 => bnd (r02_Has yr35 p1) fun yr45 => if yr45 = true then Sum.inr ((k21 : Nat) : Int) else r17_at_L0 l0 p1 q22 (k21 + 1)

def r17_at (l0 : List OwnerD) (p1 : List UInt8) : Int :=
  lp (r17_at_L0 l0 p1 (List.length l0) 0) fun _ => 0

set_option maxRecDepth 100000 in
theorem r17_at_ok (w : World) (D : Nat → Prop) (A0 : Option Addr) (n0 c0 : Nat) (l0 : List OwnerD) (p1 : List UInt8) (r0 : Int) (H : Own w D w []) (hx0 : Ro w D fun w' => Rds w' 2 A0 n0 (List.flatMap OwnerD.cells l0)) (hn0 : n0 = List.length l0) (hl0 : List.length l0 * 24 ≤ 211106232532992) (hh0 : 1 ≤ List.length l0) (hr : r17_at l0 p1 = r0) :
    Calls Try.prog 35 #[.slice A0 n0 c0, .string ⟨List.toArray p1⟩] w (Ret fun v w' => v = .int .i64 r0 ∧ Own w D w' [] ∧ (0 ≤ r0 ∧ r0 < ((List.length l0 : Nat) : Int))) := by
  subst hn0
  refine Calls.body (args := [.slice A0 (List.length l0) c0, .string ⟨List.toArray p1⟩]) Try.func35 rfl rfl rfl ?_
  show Wp _ _ _ [(0, .slice A0 (List.length l0) c0), (1, .string ⟨List.toArray p1⟩)] _ _
  refine Wp.seq (Wp.region (As rfl rfl (WL.nil (Fin.then (Wp.seq (Wp.seq (Wp.region (Mv rfl rfl (Kn (v := .int .i64 ((List.length l0 : Nat) : Int)) rfl rfl rfl (fun _ => by kernel_rfl) (Mv rfl rfl (WL.nil (Fin.then (Wp.block ?_)))))))))))))
  have H23 : Own w D w [] := H.pick [] (by decide) rfl
  refine Wp.loop (ι := Nat) (fun i => [(4, .int .i64 0), (8, .int .i64 ((i : Nat) : Int)), (7, .int .i64 ((List.length l0 : Nat) : Int)), (0, .slice A0 (List.length l0) c0), (1, .string ⟨List.toArray p1⟩)]) (fun (i : Nat) w' => Own w D w' [] ∧ (i ≤ List.length l0 ∧ r17_at_L0 l0 p1 (List.length l0) 0 = r17_at_L0 l0 p1 ((List.length l0) - i) i)) (fun i => (List.length l0) - i) 0 ⟨rfl, rfl, rfl, rfl, rfl, trivial⟩ ⟨H23, (show 0 ≤ List.length l0 ∧ r17_at_L0 l0 p1 (List.length l0) 0 = r17_at_L0 l0 p1 ((List.length l0) - 0) 0 from ⟨by omega, rfl⟩)⟩ ?_
  rintro k21 w24 ⟨H25, hf26⟩
  show Wp _ _ _ [(4, .int .i64 0), (8, .int .i64 ((k21 : Nat) : Int)), (7, .int .i64 ((List.length l0 : Nat) : Int)), (0, .slice A0 (List.length l0) c0), (1, .string ⟨List.toArray p1⟩)] _ _
  replace H25 : Own w D w24 [] := H25
  replace hf26 : k21 ≤ List.length l0 ∧ r17_at_L0 l0 p1 (List.length l0) 0 = r17_at_L0 l0 p1 ((List.length l0) - k21) k21 := hf26
  obtain ⟨hi28, hq27⟩ := hf26
  refine Wp.seq (Wp.region (Kn (v := .bool (decide (((k21 : Nat) : Int) < ((List.length l0 : Nat) : Int)))) rfl rfl rfl (fun _ => by kernel_rfl) (WL.nil (Fin.then (Wp.seq ?_)))))
  by_cases h29 : ((k21 : Nat) : Int) < ((List.length l0 : Nat) : Int)
  refine Wp.cond1 rfl (decide_eq_true h29) (Wp.skip (Fin.then (Wp.seq (Wp.block (Wp.seq (Wp.region (Mv rfl rfl (As rfl rfl (WL.nil (Fin.then (Wp.seq (Wp.region (Mv rfl rfl (Mv rfl rfl ?_))))))))))))))
  obtain ⟨r35, hr36⟩ : ∃ q, r17_Range l0 ((k21 : Nat) : Int) = q := ⟨_, rfl⟩
  obtain ⟨D30, HP31, ro32, bk33, rr34⟩ := Own.enter0 H25
  refine WL.do rfl (Do.call Try.call37 rfl (r17_Range_ok _ _ A0 (List.length l0) c0 l0 ((k21 : Nat) : Int) r35 HP31 (ro32 _ hx0) rfl (by omega) (by omega) hr36) ?_)
  rintro _ w37 ⟨rfl, HQ38⟩
  have H39 : Own w D w37 [] := bk33 _ _ HQ38
  refine Mv rfl rfl ?_
  obtain ⟨r45, hr46⟩ : ∃ q, r02_Has r35 p1 = q := ⟨_, rfl⟩
  obtain ⟨D40, HP41, ro42, bk43, rr44⟩ := Own.enter0 H39
  refine WL.do rfl (Do.call Try.call56 rfl (r02_Has_ok _ _ r35 p1 r45 HP41 hr46) ?_)
  rintro _ w47 ⟨rfl, HQ48⟩
  have H49 : Own w D w47 [] := bk43 _ _ HQ48
  refine WL.nil (Fin.then ?_)
  rcases Bool.eq_false_or_eq_true (r45) with h50 | h50
  refine Wp.cond1 rfl h50 (Wp.seq (Wp.region (Mv rfl rfl (As rfl rfl (WL.nil (Fin.then (Wp.ret (Fin.blockR (Fin.thenR (Fin.thenR (Fin.blockR (Fin.thenR (Fin.res (res1 rfl rfl) ?_)))))))))))))
  have H51 : Own w D w47 [] := H49.pick [] (by decide) rfl
  have e : r17_at l0 p1 = ((k21 : Nat) : Int) := lp_r (Eq.trans (hq27) (Eq.trans (congrArg (fun q => r17_at_L0 l0 p1 q k21) (sub_at (n := List.length l0) (i := k21) (by omega))) (Eq.trans (bnd_of hr36) (Eq.trans (bnd_of hr46) (if_pos h50)))))
  obtain rfl := e.symm.trans hr
  exact ⟨rfl, H51, (by omega)⟩
  refine Wp.cond0 rfl h50 (Wp.skip (Fin.blockN (Fin.then (Wp.region (WL.val (v := .int .i64 ((k21 + 1 : Nat) : Int)) rfl (Yl.int (e := IntKind.i64.wrap (((k21 : Nat) : Int) + 1)) (Yl.kern rfl rfl (fun _ => by kernel_rfl)) (by rw [IntWalk.i64_in _ (by omega)]; omega)) (Mv rfl rfl (WL.nil ?_)))))))
  have H52 : Own w D w47 [] := H49.pick [] (by decide) rfl
  exact Fin.round (k21 + 1) ⟨rfl, rfl, rfl, rfl, rfl, trivial⟩ ⟨H52, (show (k21 + 1) ≤ List.length l0 ∧ r17_at_L0 l0 p1 (List.length l0) 0 = r17_at_L0 l0 p1 ((List.length l0) - (k21 + 1)) (k21 + 1) from ⟨by omega, Eq.trans (hq27) (Eq.trans (congrArg (fun q => r17_at_L0 l0 p1 q k21) (sub_at (n := List.length l0) (i := k21) (by omega))) (Eq.trans (bnd_of hr36) (Eq.trans (bnd_of hr46) (ifF h50))))⟩)⟩ (by show (List.length l0) - (k21 + 1) < (List.length l0) - k21; omega)
  refine Wp.cond0 rfl (decide_eq_false h29) (Wp.exit (Fin.thenX ?_))
  have hL53 : r17_at_L0 l0 p1 (List.length l0) 0 = Sum.inl () := Eq.trans (hq27) (Eq.trans (congrArg (fun q => r17_at_L0 l0 p1 q k21) (sub_end (n := List.length l0) (i := k21) (by omega))) rfl)
  refine Fin.thenX (Fin.blockX (Fin.then (Wp.seq (Wp.region (As rfl rfl (WL.nil (Fin.then (Wp.ret (Fin.res (res1 rfl rfl) ?_)))))))))
  have H54 : Own w D w24 [] := H25.pick [] (by decide) rfl
  have e : r17_at l0 p1 = 0 := lp_l hL53
  obtain rfl := e.symm.trans hr
  exact ⟨rfl, H54, (by omega)⟩

def r17_Find (l0 : List OwnerD) (p1 : List UInt8) : Int × Int :=
  bnd (r17_Check l0) fun yr26 => if yr26 = 0 then bnd (r02_CheckKey p1) fun yr38 => if yr38 = 0 then bnd (r17_at l0 p1) fun yr50 => (yr50, 0) else (0, yr38) else (0, yr26)

set_option maxRecDepth 100000 in
theorem r17_Find_ok (w : World) (D : Nat → Prop) (A0 : Option Addr) (n0 c0 : Nat) (l0 : List OwnerD) (p1 : List UInt8) (r0 : Int) (r1 : Int) (H : Own w D w []) (hx0 : Ro w D fun w' => Rds w' 2 A0 n0 (List.flatMap OwnerD.cells l0)) (hn0 : n0 = List.length l0) (hl0 : List.length l0 * 24 ≤ 211106232532992) (hr : r17_Find l0 p1 = (r0, r1)) :
    Calls Try.prog 11 #[.slice A0 n0 c0, .string ⟨List.toArray p1⟩] w (Ret fun v w' => v = .tuple #[.int .i64 r0, .int .i64 r1] ∧ Own w D w' [] ∧ (¬ (r1 = 0) ∨ (0 ≤ r0 ∧ r0 < ((List.length l0 : Nat) : Int) ∧ List.length l0 ≤ 6))) := by
  subst hn0
  refine Calls.body (args := [.slice A0 (List.length l0) c0, .string ⟨List.toArray p1⟩]) Try.func11 rfl rfl rfl ?_
  show Wp _ _ _ [(0, .slice A0 (List.length l0) c0), (1, .string ⟨List.toArray p1⟩)] _ _
  refine Wp.seq (Wp.region (As rfl rfl (As rfl rfl (WL.nil (Fin.then (Wp.seq (Wp.seq (Wp.region (Mv rfl rfl ?_)))))))))
  obtain ⟨r26, hr27⟩ : ∃ q, r17_Check l0 = q := ⟨_, rfl⟩
  obtain ⟨D21, HP22, ro23, bk24, rr25⟩ := Own.enter0 H
  refine WL.do rfl (Do.call Try.call15 rfl (r17_Check_ok _ _ A0 (List.length l0) c0 l0 r26 HP22 (ro23 _ hx0) rfl (by omega) hr27) ?_)
  rintro _ w28 ⟨rfl, HQ29, hk31⟩
  have H30 : Own w D w28 [] := bk24 _ _ HQ29
  replace hk31 : ¬ (r26 = 0) ∨ (1 ≤ List.length l0 ∧ List.length l0 ≤ 6) := hk31
  refine As rfl rfl (WL.nil (Fin.then (Wp.seq (Wp.region (Mv rfl rfl (WL.val (v := .bool (decide (¬ (r26 = 0)))) rfl (Yl.bool (e := !(decide (r26 = 0))) (Yl.kern rfl rfl (fun _ => by kernel_rfl)) decide_not.symm) (WL.nil (Fin.then ?_))))))))
  by_cases h32 : r26 = 0
  refine Wp.cond0 rfl (decide_eq_false (not_not_intro h32)) (Wp.skip (Fin.then (Wp.seq (Wp.seq (Wp.region (Mv rfl rfl ?_))))))
  obtain ⟨r38, hr39⟩ : ∃ q, r02_CheckKey p1 = q := ⟨_, rfl⟩
  obtain ⟨D33, HP34, ro35, bk36, rr37⟩ := Own.enter0 H30
  refine WL.do rfl (Do.call Try.call34 rfl (r02_CheckKey_ok _ _ p1 r38 HP34 hr39) ?_)
  rintro _ w40 ⟨rfl, HQ41, hk43⟩
  have H42 : Own w D w40 [] := bk36 _ _ HQ41
  replace hk43 : ¬ (r38 = 0) ∨ (1 ≤ List.length p1 ∧ List.length p1 ≤ 12) := hk43
  refine As rfl rfl (WL.nil (Fin.then (Wp.seq (Wp.region (Mv rfl rfl (WL.val (v := .bool (decide (¬ (r38 = 0)))) rfl (Yl.bool (e := !(decide (r38 = 0))) (Yl.kern rfl rfl (fun _ => by kernel_rfl)) decide_not.symm) (WL.nil (Fin.then ?_))))))))
  by_cases h44 : r38 = 0
  refine Wp.cond0 rfl (decide_eq_false (not_not_intro h44)) (Wp.skip (Fin.then (Wp.seq (Wp.region (Mv rfl rfl (Mv rfl rfl ?_))))))
  obtain ⟨r50, hr51⟩ : ∃ q, r17_at l0 p1 = q := ⟨_, rfl⟩
  obtain ⟨D45, HP46, ro47, bk48, rr49⟩ := Own.enter0 H42
  refine WL.do rfl (Do.call Try.call35 rfl (r17_at_ok _ _ A0 (List.length l0) c0 l0 p1 r50 HP46 (ro47 _ hx0) rfl (by omega) (by first | omega | (simp only [List.length_cons, List.length_nil]; omega)) hr51) ?_)
  rintro _ w52 ⟨rfl, HQ53, hk55⟩
  have H54 : Own w D w52 [] := bk48 _ _ HQ53
  replace hk55 : 0 ≤ r50 ∧ r50 < ((List.length l0 : Nat) : Int) := hk55
  refine As rfl rfl (As rfl rfl (WL.nil (Fin.then (Wp.ret (Fin.res (res2 rfl rfl rfl) ?_)))))
  have H56 : Own w D w52 [] := H54.pick [] (by decide) rfl
  have e : r17_Find l0 p1 = (r50, 0) := Eq.trans (bnd_of hr27) (Eq.trans (if_pos h32) (Eq.trans (bnd_of hr39) (Eq.trans (if_pos h44) (bnd_of hr51))))
  obtain ⟨rfl, rfl⟩ := pj2 (e.symm.trans hr)
  exact ⟨rfl, H56, (by omega)⟩
  refine Wp.cond1 rfl (decide_eq_true h44) (Wp.seq (Wp.region (Mv rfl rfl (As rfl rfl (As rfl rfl (WL.nil (Fin.then (Wp.ret (Fin.thenR (Fin.res (res2 rfl rfl rfl) ?_))))))))))
  have H57 : Own w D w40 [] := H42.pick [] (by decide) rfl
  have e : r17_Find l0 p1 = (0, r38) := Eq.trans (bnd_of hr27) (Eq.trans (if_pos h32) (Eq.trans (bnd_of hr39) (if_neg h44)))
  obtain ⟨rfl, rfl⟩ := pj2 (e.symm.trans hr)
  exact ⟨rfl, H57, (by omega)⟩
  refine Wp.cond1 rfl (decide_eq_true h32) (Wp.seq (Wp.region (Mv rfl rfl (As rfl rfl (As rfl rfl (WL.nil (Fin.then (Wp.ret (Fin.thenR (Fin.res (res2 rfl rfl rfl) ?_))))))))))
  have H58 : Own w D w28 [] := H30.pick [] (by decide) rfl
  have e : r17_Find l0 p1 = (0, r26) := Eq.trans (bnd_of hr27) (if_neg h32)
  obtain ⟨rfl, rfl⟩ := pj2 (e.symm.trans hr)
  exact ⟨rfl, H58, (by omega)⟩

def r02_below (p0 : List UInt8) (p1 : List UInt8) : Bool :=
  if p0 ≠ ([]) then if p1 = ([]) then true else decide (p0 < p1) else false

set_option maxRecDepth 100000 in
theorem r02_below_ok (w : World) (D : Nat → Prop) (p0 : List UInt8) (p1 : List UInt8) (r0 : Bool) (H : Own w D w [])  (hr : r02_below p0 p1 = r0) :
    Calls Try.prog 58 #[.string ⟨List.toArray p0⟩, .string ⟨List.toArray p1⟩] w (Ret fun v w' => v = .bool r0 ∧ Own w D w' []) := by
  refine Calls.body (args := [.string ⟨List.toArray p0⟩, .string ⟨List.toArray p1⟩]) Try.func58 rfl rfl rfl ?_
  show Wp _ _ _ [(0, .string ⟨List.toArray p0⟩), (1, .string ⟨List.toArray p1⟩)] _ _
  refine Wp.seq (Wp.region (As rfl rfl (WL.nil (Fin.then (Wp.seq (Wp.region (Mv rfl rfl (WL.val (v := .bool (decide (p0 ≠ ([])))) rfl (Yl.strNe rfl rfl) (Mv rfl rfl ?_)))))))))
  by_cases h21 : p0 ≠ ([])
  refine WL.valG (v := .string ⟨List.toArray p1⟩) rfl rfl (decide_eq_true h21) rfl (Yl.move rfl) (WL.valG (v := .bool (decide (p1 = ([])))) rfl rfl (decide_eq_true h21) rfl (Yl.strEq rfl rfl) (WL.valG (v := .bool (decide (p1 = ([])))) rfl rfl (decide_eq_true h21) rfl (Yl.move rfl) ?_))
  by_cases h22 : p1 = ([])
  refine Sk rfl rfl (decide_eq_true h22) rfl (Sk rfl rfl (decide_eq_true h22) rfl (Sk rfl rfl (decide_eq_true h22) rfl (WL.valG (v := .bool true) rfl rfl (decide_eq_true h21) rfl (Yl.pickT rfl (decide_eq_true h22) rfl) (WL.val (v := .bool true) rfl (Yl.pickT rfl (decide_eq_true h21) rfl) (As rfl rfl (WL.nil (Fin.then (Wp.ret (Fin.res (res1 rfl rfl) ?_)))))))))
  have H23 : Own w D w [] := H.pick [] (by decide) rfl
  have e : r02_below p0 p1 = true := Eq.trans (if_pos h21) (if_pos h22)
  obtain rfl := e.symm.trans hr
  exact ⟨rfl, H23⟩
  refine WL.valG (v := .string ⟨List.toArray p0⟩) rfl rfl (decide_eq_false h22) rfl (Yl.move rfl) (WL.valG (v := .string ⟨List.toArray p1⟩) rfl rfl (decide_eq_false h22) rfl (Yl.move rfl) (WL.valG (v := .bool (decide (p0 < p1))) rfl rfl (decide_eq_false h22) rfl (Yl.bool (e := Op.bytesLess p0 p1) (Yl.strLt rfl rfl) (bl_lt _ _)) (WL.valG (v := .bool (decide (p0 < p1))) rfl rfl (decide_eq_true h21) rfl (Yl.pickF rfl (decide_eq_false h22) rfl) (WL.val (v := .bool (decide (p0 < p1))) rfl (Yl.pickT rfl (decide_eq_true h21) rfl) (As rfl rfl (WL.nil (Fin.then (Wp.ret (Fin.res (res1 rfl rfl) ?_)))))))))
  have H24 : Own w D w [] := H.pick [] (by decide) rfl
  have e : r02_below p0 p1 = decide (p0 < p1) := Eq.trans (if_pos h21) (if_neg h22)
  obtain rfl := e.symm.trans hr
  exact ⟨rfl, H24⟩
  refine Sk rfl rfl (decide_eq_false h21) rfl (Sk rfl rfl (decide_eq_false h21) rfl (Sk rfl rfl (decide_eq_false h21) rfl (WL.skipU rfl rfl rfl (WL.skipU rfl rfl rfl (WL.skipU rfl rfl rfl (Sk rfl rfl (decide_eq_false h21) rfl (WL.val (v := .bool false) rfl (Yl.pickF rfl (decide_eq_false h21) rfl) (As rfl rfl (WL.nil (Fin.then (Wp.ret (Fin.res (res1 rfl rfl) ?_))))))))))))
  have H25 : Own w D w [] := H.pick [] (by decide) rfl
  have e : r02_below p0 p1 = false := if_neg h21
  obtain rfl := e.symm.trans hr
  exact ⟨rfl, H25⟩

def r02_Covers (p0 : RangeD) (p1 : RangeD) : Bool :=
  bnd (r02_Check p0) fun yr32 => if yr32 = 0 then bnd (r02_Check p1) fun yr43 => if yr43 = 0 then if p0.xLo ≤ p1.xLo then bnd (r02_below p0.xHi p1.xHi) fun yr55 => !yr55 else false else false else false

set_option maxRecDepth 100000 in
theorem r02_Covers_ok (w : World) (D : Nat → Prop) (p0 : RangeD) (p1 : RangeD) (r0 : Bool) (H : Own w D w [])  (hr : r02_Covers p0 p1 = r0) :
    Calls Try.prog 41 #[.agg (RangeD.cells p0).toArray, .agg (RangeD.cells p1).toArray] w (Ret fun v w' => v = .bool r0 ∧ Own w D w' []) := by
  refine Calls.body (args := [.agg (RangeD.cells p0).toArray, .agg (RangeD.cells p1).toArray]) Try.func41 rfl rfl rfl ?_
  show Wp _ _ _ [(0, .agg (RangeD.cells p0).toArray), (1, .agg (RangeD.cells p1).toArray)] _ _
  refine Wp.seq (Wp.region ?_)
  refine WL.do rfl (Do.newP (cs := (RangeD.cells p0)) (t := 24) H rfl rfl (fun _ => by kernel_rfl) ?_)
  intro g21 w22 H23
  replace H23 : Own w D w22 [blk g21 (RangeD.cells p0) 24] := H23
  refine WL.do rfl (Do.newP (cs := (RangeD.cells p1)) (t := 24) H23 rfl rfl (fun _ => by kernel_rfl) ?_)
  intro g24 w25 H26
  replace H26 : Own w D w25 [blk g24 (RangeD.cells p1) 24, blk g21 (RangeD.cells p0) 24] := H26
  refine As rfl rfl (WL.nil (Fin.then (Wp.seq (Wp.region (WL.val (v := .agg (RangeD.cells p0).toArray) rfl (Yl.load rfl (Lds.agg (cs := (RangeD.cells p0)) Try.isAgg24 Try.sizeOf24 ((H26.cls (i := 1) rfl).lit (k := 0) (m := 2) rfl))) ?_)))))
  obtain ⟨r32, hr33⟩ : ∃ q, r02_Check p0 = q := ⟨_, rfl⟩
  obtain ⟨D27, HP28, ro29, bk30, rr31⟩ := Own.enter0 H26
  refine WL.do rfl (Do.call Try.call40 rfl (r02_Check_ok _ _ p0 r32 HP28 hr33) ?_)
  rintro _ w34 ⟨rfl, HQ35⟩
  have H36 : Own w D w34 [blk g24 (RangeD.cells p1) 24, blk g21 (RangeD.cells p0) 24] := bk30 _ _ HQ35
  refine Kn (v := .bool (decide (r32 = 0))) rfl rfl rfl (fun _ => by kernel_rfl) (Mv rfl rfl ?_)
  by_cases h37 : r32 = 0
  refine WL.valG (v := .agg (RangeD.cells p1).toArray) rfl rfl (decide_eq_true h37) rfl (Yl.load rfl (Lds.agg (cs := (RangeD.cells p1)) Try.isAgg24 Try.sizeOf24 ((H36.cls (i := 0) rfl).lit (k := 0) (m := 2) rfl))) ?_
  obtain ⟨r43, hr44⟩ : ∃ q, r02_Check p1 = q := ⟨_, rfl⟩
  obtain ⟨D38, HP39, ro40, bk41, rr42⟩ := Own.enter0 H36
  refine WL.doG rfl rfl (decide_eq_true h37) rfl (Do.call Try.call40 rfl (r02_Check_ok _ _ p1 r43 HP39 hr44) ?_)
  rintro _ w45 ⟨rfl, HQ46⟩
  have H47 : Own w D w45 [blk g24 (RangeD.cells p1) 24, blk g21 (RangeD.cells p0) 24] := bk41 _ _ HQ46
  refine WL.valG (v := .bool (decide (r43 = 0))) rfl rfl (decide_eq_true h37) rfl (Yl.kern rfl rfl (fun _ => by kernel_rfl)) (WL.val (v := .bool (decide (r43 = 0))) rfl (Yl.pickT rfl (decide_eq_true h37) rfl) (Mv rfl rfl ?_))
  by_cases h48 : r43 = 0
  refine WL.valG (v := .pointer (some ⟨g21, 0, none⟩)) rfl rfl (decide_eq_true h48) rfl (Yl.kern rfl rfl (fun _ => by kernel_rfl)) (WL.valG (v := .string ⟨List.toArray p0.xLo⟩) rfl rfl (decide_eq_true h48) rfl (Yl.load rfl (Lds.one Try.isAgg9 (Cls.of (H47.cls (i := 1) rfl) rfl))) (WL.valG (v := .pointer (some ⟨g24, 0, none⟩)) rfl rfl (decide_eq_true h48) rfl (Yl.kern rfl rfl (fun _ => by kernel_rfl)) (WL.valG (v := .string ⟨List.toArray p1.xLo⟩) rfl rfl (decide_eq_true h48) rfl (Yl.load rfl (Lds.one Try.isAgg9 (Cls.of (H47.cls (i := 0) rfl) rfl))) (WL.valG (v := .bool (decide (p0.xLo ≤ p1.xLo))) rfl rfl (decide_eq_true h48) rfl (Yl.bool (e := Op.bytesLess p0.xLo p1.xLo || decide (p0.xLo = p1.xLo)) (Yl.strLe rfl rfl) (bl_le _ _)) (WL.val (v := .bool (decide (p0.xLo ≤ p1.xLo))) rfl (Yl.pickT rfl (decide_eq_true h48) rfl) (Mv rfl rfl ?_))))))
  by_cases h49 : p0.xLo ≤ p1.xLo
  refine WL.valG (v := .pointer (some ⟨g21, 1, none⟩)) rfl rfl (decide_eq_true h49) rfl (Yl.kern rfl rfl (fun _ => by kernel_rfl)) (WL.valG (v := .string ⟨List.toArray p0.xHi⟩) rfl rfl (decide_eq_true h49) rfl (Yl.load rfl (Lds.one Try.isAgg9 (Cls.of (H47.cls (i := 1) rfl) rfl))) (WL.valG (v := .pointer (some ⟨g24, 1, none⟩)) rfl rfl (decide_eq_true h49) rfl (Yl.kern rfl rfl (fun _ => by kernel_rfl)) (WL.valG (v := .string ⟨List.toArray p1.xHi⟩) rfl rfl (decide_eq_true h49) rfl (Yl.load rfl (Lds.one Try.isAgg9 (Cls.of (H47.cls (i := 0) rfl) rfl))) ?_)))
  obtain ⟨r55, hr56⟩ : ∃ q, r02_below p0.xHi p1.xHi = q := ⟨_, rfl⟩
  obtain ⟨D50, HP51, ro52, bk53, rr54⟩ := Own.enter0 H47
  refine WL.doG rfl rfl (decide_eq_true h49) rfl (Do.call Try.call58 rfl (r02_below_ok _ _ p0.xHi p1.xHi r55 HP51 hr56) ?_)
  rintro _ w57 ⟨rfl, HQ58⟩
  have H59 : Own w D w57 [blk g24 (RangeD.cells p1) 24, blk g21 (RangeD.cells p0) 24] := bk53 _ _ HQ58
  refine WL.valG (v := .bool (!r55)) rfl rfl (decide_eq_true h49) rfl (Yl.kern rfl rfl (fun _ => by kernel_rfl)) (WL.val (v := .bool (!r55)) rfl (Yl.pickT rfl (decide_eq_true h49) rfl) (As rfl rfl (WL.nil (Fin.then (Wp.ret (Fin.res (res1 rfl rfl) ?_))))))
  have H60 : Own w D w57 [] := H59.pick [] (by decide) rfl
  have e : r02_Covers p0 p1 = !r55 := Eq.trans (bnd_of hr33) (Eq.trans (if_pos h37) (Eq.trans (bnd_of hr44) (Eq.trans (if_pos h48) (Eq.trans (if_pos h49) (bnd_of hr56)))))
  obtain rfl := e.symm.trans hr
  exact ⟨rfl, H60⟩
  refine Sk rfl rfl (decide_eq_false h49) rfl (Sk rfl rfl (decide_eq_false h49) rfl (Sk rfl rfl (decide_eq_false h49) rfl (Sk rfl rfl (decide_eq_false h49) rfl (Sk rfl rfl (decide_eq_false h49) rfl (Sk rfl rfl (decide_eq_false h49) rfl (WL.val (v := .bool false) rfl (Yl.pickF rfl (decide_eq_false h49) rfl) (As rfl rfl (WL.nil (Fin.then (Wp.ret (Fin.res (res1 rfl rfl) ?_)))))))))))
  have H61 : Own w D w45 [] := H47.pick [] (by decide) rfl
  have e : r02_Covers p0 p1 = false := Eq.trans (bnd_of hr33) (Eq.trans (if_pos h37) (Eq.trans (bnd_of hr44) (Eq.trans (if_pos h48) (if_neg h49))))
  obtain rfl := e.symm.trans hr
  exact ⟨rfl, H61⟩
  refine Sk rfl rfl (decide_eq_false h48) rfl (Sk rfl rfl (decide_eq_false h48) rfl (Sk rfl rfl (decide_eq_false h48) rfl (Sk rfl rfl (decide_eq_false h48) rfl (Sk rfl rfl (decide_eq_false h48) rfl (WL.val (v := .bool false) rfl (Yl.pickF rfl (decide_eq_false h48) rfl) (Mv rfl rfl (Sk rfl rfl rfl rfl (Sk rfl rfl rfl rfl (Sk rfl rfl rfl rfl (Sk rfl rfl rfl rfl (Sk rfl rfl rfl rfl (Sk rfl rfl rfl rfl (WL.val (v := .bool false) rfl (Yl.pickF rfl rfl rfl) (As rfl rfl (WL.nil (Fin.then (Wp.ret (Fin.res (res1 rfl rfl) ?_))))))))))))))))))
  have H62 : Own w D w45 [] := H47.pick [] (by decide) rfl
  have e : r02_Covers p0 p1 = false := Eq.trans (bnd_of hr33) (Eq.trans (if_pos h37) (Eq.trans (bnd_of hr44) (if_neg h48)))
  obtain rfl := e.symm.trans hr
  exact ⟨rfl, H62⟩
  refine Sk rfl rfl (decide_eq_false h37) rfl (Sk rfl rfl (decide_eq_false h37) rfl (Sk rfl rfl (decide_eq_false h37) rfl (WL.val (v := .bool false) rfl (Yl.pickF rfl (decide_eq_false h37) rfl) (Mv rfl rfl (Sk rfl rfl rfl rfl (Sk rfl rfl rfl rfl (Sk rfl rfl rfl rfl (Sk rfl rfl rfl rfl (Sk rfl rfl rfl rfl (WL.val (v := .bool false) rfl (Yl.pickF rfl rfl rfl) (Mv rfl rfl (Sk rfl rfl rfl rfl (Sk rfl rfl rfl rfl (Sk rfl rfl rfl rfl (Sk rfl rfl rfl rfl (Sk rfl rfl rfl rfl (Sk rfl rfl rfl rfl (WL.val (v := .bool false) rfl (Yl.pickF rfl rfl rfl) (As rfl rfl (WL.nil (Fin.then (Wp.ret (Fin.res (res1 rfl rfl) ?_)))))))))))))))))))))))
  have H63 : Own w D w34 [] := H36.pick [] (by decide) rfl
  have e : r02_Covers p0 p1 = false := Eq.trans (bnd_of hr33) (if_neg h37)
  obtain rfl := e.symm.trans hr
  exact ⟨rfl, H63⟩

def r17_Owns_L0 (l0 : List OwnerD) (p1 : Int) (p2 : RangeD) : List OwnerD → Nat → Unit ⊕ Bool
  | [], k47 => Sum.inl ()
  | x56 :: q48, k47 => if x56.xShard = p1 then bnd (r17_Range l0 ((k47 : Nat) : Int)) fun yr72 => bnd (r02_Covers yr72 p2) fun yr82 => if yr82 = true then Sum.inr (true) else r17_Owns_L0 l0 p1 p2 q48 (k47 + 1) else r17_Owns_L0 l0 p1 p2 q48 (k47 + 1)

def r17_Owns (l0 : List OwnerD) (p1 : Int) (p2 : RangeD) : Bool :=
  bnd (r17_Check l0) fun yr29 => if yr29 = 0 then bnd (r02_Check p2) fun yr41 => if yr41 = 0 then lp (r17_Owns_L0 l0 p1 p2 l0 0) fun _ => false else false else false

set_option maxRecDepth 100000 in
theorem r17_Owns_ok (w : World) (D : Nat → Prop) (A0 : Option Addr) (n0 c0 : Nat) (l0 : List OwnerD) (p1 : Int) (p2 : RangeD) (r0 : Bool) (H : Own w D w []) (hx0 : Ro w D fun w' => Rds w' 2 A0 n0 (List.flatMap OwnerD.cells l0)) (hn0 : n0 = List.length l0) (hl0 : List.length l0 * 24 ≤ 211106232532992) (hr : r17_Owns l0 p1 p2 = r0) :
    Calls Try.prog 17 #[.slice A0 n0 c0, .int .i64 p1, .agg (RangeD.cells p2).toArray] w (Ret fun v w' => v = .bool r0 ∧ Own w D w' []) := by
  subst hn0
  refine Calls.body (args := [.slice A0 (List.length l0) c0, .int .i64 p1, .agg (RangeD.cells p2).toArray]) Try.func17 rfl rfl rfl ?_
  show Wp _ _ _ [(0, .slice A0 (List.length l0) c0), (1, .int .i64 p1), (2, .agg (RangeD.cells p2).toArray)] _ _
  refine Wp.seq (Wp.region ?_)
  refine WL.do rfl (Do.newP (cs := (RangeD.cells p2)) (t := 24) H rfl rfl (fun _ => by kernel_rfl) ?_)
  intro g21 w22 H23
  replace H23 : Own w D w22 [blk g21 (RangeD.cells p2) 24] := H23
  refine As rfl rfl (WL.nil (Fin.then (Wp.seq (Wp.seq (Wp.region (Mv rfl rfl ?_))))))
  obtain ⟨r29, hr30⟩ : ∃ q, r17_Check l0 = q := ⟨_, rfl⟩
  obtain ⟨D24, HP25, ro26, bk27, rr28⟩ := Own.enter0 H23
  refine WL.do rfl (Do.call Try.call15 rfl (r17_Check_ok _ _ A0 (List.length l0) c0 l0 r29 HP25 (ro26 _ hx0) rfl (by omega) hr30) ?_)
  rintro _ w31 ⟨rfl, HQ32, hk34⟩
  have H33 : Own w D w31 [blk g21 (RangeD.cells p2) 24] := bk27 _ _ HQ32
  replace hk34 : ¬ (r29 = 0) ∨ (1 ≤ List.length l0 ∧ List.length l0 ≤ 6) := hk34
  refine WL.val (v := .bool (decide (¬ (r29 = 0)))) rfl (Yl.bool (e := !(decide (r29 = 0))) (Yl.kern rfl rfl (fun _ => by kernel_rfl)) decide_not.symm) (Mv rfl rfl ?_)
  by_cases h35 : r29 = 0
  refine WL.valG (v := .agg (RangeD.cells p2).toArray) rfl rfl (decide_eq_false (not_not_intro h35)) rfl (Yl.load rfl (Lds.agg (cs := (RangeD.cells p2)) Try.isAgg24 Try.sizeOf24 ((H33.cls (i := 0) rfl).lit (k := 0) (m := 2) rfl))) ?_
  obtain ⟨r41, hr42⟩ : ∃ q, r02_Check p2 = q := ⟨_, rfl⟩
  obtain ⟨D36, HP37, ro38, bk39, rr40⟩ := Own.enter0 H33
  refine WL.doG rfl rfl (decide_eq_false (not_not_intro h35)) rfl (Do.call Try.call40 rfl (r02_Check_ok _ _ p2 r41 HP37 hr42) ?_)
  rintro _ w43 ⟨rfl, HQ44⟩
  have H45 : Own w D w43 [blk g21 (RangeD.cells p2) 24] := bk39 _ _ HQ44
  refine WL.valG (v := .bool (decide (¬ (r41 = 0)))) rfl rfl (decide_eq_false (not_not_intro h35)) rfl (Yl.bool (e := !(decide (r41 = 0))) (Yl.kern rfl rfl (fun _ => by kernel_rfl)) decide_not.symm) (WL.val (v := .bool (decide (¬ (r41 = 0)))) rfl (Yl.pickF rfl (decide_eq_false (not_not_intro h35)) rfl) (WL.nil (Fin.then ?_)))
  by_cases h46 : r41 = 0
  refine Wp.cond0 rfl (decide_eq_false (not_not_intro h46)) (Wp.skip (Fin.then (Wp.seq (Wp.seq (Wp.region (Mv rfl rfl (Kn (v := .int .i64 ((List.length l0 : Nat) : Int)) rfl rfl rfl (fun _ => by kernel_rfl) (Mv rfl rfl (WL.nil (Fin.then (Wp.block ?_)))))))))))
  have H49 : Own w D w43 [blk g21 (RangeD.cells p2) 24] := H45.pick [0] (by decide) rfl
  refine Wp.loop (ι := Nat) (fun i => [(6, .bool false), (19, .int .i64 ((i : Nat) : Int)), (18, .int .i64 ((List.length l0 : Nat) : Int)), (17, .slice A0 (List.length l0) c0), (5, .pointer (some ⟨g21, 0, none⟩)), (0, .slice A0 (List.length l0) c0), (1, .int .i64 p1)]) (fun (i : Nat) w' => Own w D w' [blk g21 (RangeD.cells p2) 24] ∧ (i ≤ List.length l0 ∧ r17_Owns_L0 l0 p1 p2 l0 0 = r17_Owns_L0 l0 p1 p2 (List.drop i l0) i)) (fun i => List.length l0 - i) 0 ⟨rfl, rfl, rfl, rfl, rfl, rfl, rfl, trivial⟩ ⟨H49, (show 0 ≤ List.length l0 ∧ r17_Owns_L0 l0 p1 p2 l0 0 = r17_Owns_L0 l0 p1 p2 (List.drop 0 l0) 0 from ⟨by omega, rfl⟩)⟩ ?_
  rintro k47 w50 ⟨H51, hf52⟩
  show Wp _ _ _ [(6, .bool false), (19, .int .i64 ((k47 : Nat) : Int)), (18, .int .i64 ((List.length l0 : Nat) : Int)), (17, .slice A0 (List.length l0) c0), (5, .pointer (some ⟨g21, 0, none⟩)), (0, .slice A0 (List.length l0) c0), (1, .int .i64 p1)] _ _
  replace H51 : Own w D w50 [blk g21 (RangeD.cells p2) 24] := H51
  replace hf52 : k47 ≤ List.length l0 ∧ r17_Owns_L0 l0 p1 p2 l0 0 = r17_Owns_L0 l0 p1 p2 (List.drop k47 l0) k47 := hf52
  obtain ⟨hi54, hq53⟩ := hf52
  refine Wp.seq (Wp.region (Kn (v := .bool (decide (((k47 : Nat) : Int) < ((List.length l0 : Nat) : Int)))) rfl rfl rfl (fun _ => by kernel_rfl) (WL.nil (Fin.then (Wp.seq ?_)))))
  by_cases h55 : ((k47 : Nat) : Int) < ((List.length l0 : Nat) : Int)
  obtain ⟨x56, hx57⟩ := rds_at (ls := l0) (i := k47) OwnerD.len (by decide) (H51.ro hx0) (by first | omega | (simp; done) | (simp; omega))
  have hd58 := drop_at hx57
  refine Wp.cond1 rfl (decide_eq_true h55) (Wp.skip (Fin.then (Wp.seq (Wp.block (Wp.seq (Wp.region (Mv rfl rfl (WL.val (v := .pointer (some ⟨ab A0, ao A0 + k47 * 2, none⟩)) rfl (Yl.indexAddr (El22) rfl rfl ((H51.ro hx0).addr (i := k47) (by omega)) (by omega)) (WL.val (v := .agg (OwnerD.cells x56).toArray) rfl (Yl.load rfl (Lds.agg (cs := (OwnerD.cells x56)) Try.isAgg39 Try.sizeOf39 ((H51.ro hx0).elem OwnerD.len hx57 (by decide)))) ?_)))))))))
  refine WL.do rfl (Do.newP (cs := [.string ⟨List.toArray ([])⟩, .int .i64 0]) (t := 39) H51 rfl rfl (fun _ => by kernel_rfl) ?_)
  intro g59 w60 H61
  replace H61 : Own w D w60 [blk g59 [.string ⟨List.toArray ([])⟩, .int .i64 0] 39, blk g21 (RangeD.cells p2) 24] := H61
  refine As rfl rfl ?_
  refine WL.do0 (Do.store (vs := (OwnerD.cells x56)) (o := 0) H61 rfl rfl Try.sizeOf39 rfl rfl rfl rfl ?_)
  intro w62 H63
  replace H63 : Own w D w62 [blk g59 (OwnerD.cells x56) 39, blk g21 (RangeD.cells p2) 24] := H63
  refine WL.nil (Fin.then (Wp.seq ?_))
  have H65 := H63.drew
  refine Wp.drawnX [] (fun W => ∃ L', Own w D W ([blk g59 (OwnerD.cells x56) 39, blk g21 (RangeD.cells p2) 24] ++ L')) (by kernel_rfl) (by kernel_rfl) (NoP.then (NoP.block (NoP.then (NoP.then (NoP.block (NoP.then NoP.base)))))) ⟨_, H65⟩ ?_
  revert H65
  generalize World.drew w62 = w64
  intro H65
  replace H65 : Own w D w64 [blk g59 (OwnerD.cells x56) 39, blk g21 (RangeD.cells p2) 24] := H65
  refine GX.take (v := .pointer (some ⟨g59, 1, none⟩)) (rs := []) 0 rfl (by kernel_rfl) (fun _ _ => Yl.kern rfl rfl (fun _ => by kernel_rfl)) (GX.take (v := .int .i64 x56.xShard) (rs := []) 1 rfl (by kernel_rfl) (fun _ ⟨_, H9⟩ => Yl.load rfl (Lds.one Try.isAgg3 (Cls.of (H9.cls (i := 0) rfl) rfl))) (GX.take (v := .int .i64 p1) (rs := []) 2 rfl (by kernel_rfl) (fun _ _ => Yl.move rfl) (GX.take (v := .bool (decide (x56.xShard = p1))) (rs := []) 3 rfl (by kernel_rfl) (fun _ _ => Yl.kern rfl rfl (fun _ => by kernel_rfl)) (GX.take (v := .bool (decide (x56.xShard = p1))) (rs := []) 4 rfl (by kernel_rfl) (fun _ _ => Yl.move rfl) ?_))))
  by_cases h66 : x56.xShard = p1
  refine GX.takeG (v := .slice A0 (List.length l0) c0) (rs := []) 5 rfl rfl rfl (decide_eq_true h66) (by kernel_rfl) (fun _ _ => Yl.move rfl) (GX.takeG (v := .int .i64 ((k47 : Nat) : Int)) (rs := []) 6 rfl rfl rfl (decide_eq_true h66) (by kernel_rfl) (fun _ _ => Yl.move rfl) (GX.takeG (v := .agg (RangeD.cells p2).toArray) (rs := []) 8 rfl rfl rfl (decide_eq_true h66) (by kernel_rfl) (fun _ ⟨_, H9⟩ => Yl.load rfl (Lds.agg (cs := (RangeD.cells p2)) Try.isAgg24 Try.sizeOf24 ((H9.cls (i := 1) rfl).lit (k := 0) (m := 2) rfl))) ?_))
  obtain ⟨r72, hr73⟩ : ∃ q, r17_Range l0 ((k47 : Nat) : Int) = q := ⟨_, rfl⟩
  obtain ⟨D67, HP68, ro69, bk70, rr71⟩ := Own.enter0 H65
  refine GX.doG 7 rfl rfl rfl (decide_eq_true h66) (by kernel_rfl) (Do.call Try.call37 rfl (r17_Range_ok _ _ A0 (List.length l0) c0 l0 ((k47 : Nat) : Int) r72 HP68 (ro69 _ hx0) rfl (by omega) (by omega) hr73) ?_)
  rintro _ w74 ⟨rfl, HQ75⟩
  have H76 : Own w D w74 [blk g59 (OwnerD.cells x56) 39, blk g21 (RangeD.cells p2) 24] := bk70 _ _ HQ75
  refine ⟨.inr ⟨_, H76⟩, ?_⟩
  obtain ⟨r82, hr83⟩ : ∃ q, r02_Covers r72 p2 = q := ⟨_, rfl⟩
  obtain ⟨D77, HP78, ro79, bk80, rr81⟩ := Own.enter0 H76
  refine GX.doG 9 rfl rfl rfl (decide_eq_true h66) (by kernel_rfl) (Do.call Try.call41 rfl (r02_Covers_ok _ _ r72 p2 r82 HP78 hr83) ?_)
  rintro _ w84 ⟨rfl, HQ85⟩
  have H86 : Own w D w84 [blk g59 (OwnerD.cells x56) 39, blk g21 (RangeD.cells p2) 24] := bk80 _ _ HQ85
  refine ⟨.inr ⟨_, H86⟩, ?_⟩
  refine GX.take (v := .bool r82) (rs := []) 10 rfl (by kernel_rfl) (fun _ _ => Yl.pickT rfl (decide_eq_true h66) rfl) (GX.done (by kernel_rfl) (Fin.then ?_))
  rcases Bool.eq_false_or_eq_true (r82) with h87 | h87
  refine Wp.cond1 rfl h87 (Wp.seq (Wp.region (As rfl rfl (WL.nil (Fin.then (Wp.ret (Fin.blockR (Fin.thenR (Fin.thenR (Fin.blockR (Fin.thenR (Fin.res (res1 rfl rfl) ?_))))))))))))
  have H88 : Own w D w84 [] := H86.pick [] (by decide) rfl
  have e : r17_Owns l0 p1 p2 = true := Eq.trans (bnd_of hr30) (Eq.trans (if_pos h35) (Eq.trans (bnd_of hr42) (Eq.trans (if_pos h46) (lp_r (Eq.trans (hq53) (Eq.trans (congrArg (fun q => r17_Owns_L0 l0 p1 p2 q k47) hd58) (Eq.trans (if_pos h66) (Eq.trans (bnd_of hr73) (Eq.trans (bnd_of hr83) (if_pos h87))))))))))
  obtain rfl := e.symm.trans hr
  exact ⟨rfl, H88⟩
  refine Wp.cond0 rfl h87 (Wp.skip (Fin.blockN (Fin.then (Wp.region (WL.val (v := .int .i64 ((k47 + 1 : Nat) : Int)) rfl (Yl.int (e := IntKind.i64.wrap (((k47 : Nat) : Int) + 1)) (Yl.kern rfl rfl (fun _ => by kernel_rfl)) (by rw [IntWalk.i64_in _ (by omega)]; omega)) (Mv rfl rfl (WL.nil ?_)))))))
  have H89 : Own w D w84 [blk g21 (RangeD.cells p2) 24] := H86.pick [1] (by decide) rfl
  exact Fin.round (k47 + 1) ⟨rfl, rfl, rfl, rfl, rfl, rfl, rfl, trivial⟩ ⟨H89, (show (k47 + 1) ≤ List.length l0 ∧ r17_Owns_L0 l0 p1 p2 l0 0 = r17_Owns_L0 l0 p1 p2 (List.drop (k47 + 1) l0) (k47 + 1) from ⟨by omega, Eq.trans (hq53) (Eq.trans (congrArg (fun q => r17_Owns_L0 l0 p1 p2 q k47) hd58) (Eq.trans (if_pos h66) (Eq.trans (bnd_of hr73) (Eq.trans (bnd_of hr83) (ifF h87)))))⟩)⟩ (by show List.length l0 - (k47 + 1) < List.length l0 - k47; omega)
  refine GX.skipG (rs := []) 5 rfl rfl rfl (decide_eq_false h66) (by kernel_rfl) (GX.skipG (rs := []) 6 rfl rfl rfl (decide_eq_false h66) (by kernel_rfl) (GX.skipG (rs := []) 7 rfl rfl rfl (decide_eq_false h66) (by kernel_rfl) (GX.skipG (rs := []) 8 rfl rfl rfl (decide_eq_false h66) (by kernel_rfl) (GX.skipG (rs := []) 9 rfl rfl rfl (decide_eq_false h66) (by kernel_rfl) (GX.take (v := .bool false) (rs := []) 10 rfl (by kernel_rfl) (fun _ _ => Yl.pickF rfl (decide_eq_false h66) rfl) (GX.done (by kernel_rfl) (Fin.then (Wp.cond0 rfl rfl (Wp.skip (Fin.blockN (Fin.then (Wp.region (WL.val (v := .int .i64 ((k47 + 1 : Nat) : Int)) rfl (Yl.int (e := IntKind.i64.wrap (((k47 : Nat) : Int) + 1)) (Yl.kern rfl rfl (fun _ => by kernel_rfl)) (by rw [IntWalk.i64_in _ (by omega)]; omega)) (Mv rfl rfl (WL.nil ?_)))))))))))))))
  have H90 : Own w D w64 [blk g21 (RangeD.cells p2) 24] := H65.pick [1] (by decide) rfl
  exact Fin.round (k47 + 1) ⟨rfl, rfl, rfl, rfl, rfl, rfl, rfl, trivial⟩ ⟨H90, (show (k47 + 1) ≤ List.length l0 ∧ r17_Owns_L0 l0 p1 p2 l0 0 = r17_Owns_L0 l0 p1 p2 (List.drop (k47 + 1) l0) (k47 + 1) from ⟨by omega, Eq.trans (hq53) (Eq.trans (congrArg (fun q => r17_Owns_L0 l0 p1 p2 q k47) hd58) (if_neg h66))⟩)⟩ (by show List.length l0 - (k47 + 1) < List.length l0 - k47; omega)
  refine Wp.cond0 rfl (decide_eq_false h55) (Wp.exit (Fin.thenX ?_))
  have hL91 : r17_Owns_L0 l0 p1 p2 l0 0 = Sum.inl () := Eq.trans (hq53) (Eq.trans (congrArg (fun q => r17_Owns_L0 l0 p1 p2 q k47) (drop_end (ls := l0) (i := k47) (by omega))) rfl)
  refine Fin.thenX (Fin.blockX (Fin.then (Wp.seq (Wp.region (As rfl rfl (WL.nil (Fin.then (Wp.ret (Fin.res (res1 rfl rfl) ?_)))))))))
  have H92 : Own w D w50 [] := H51.pick [] (by decide) rfl
  have e : r17_Owns l0 p1 p2 = false := Eq.trans (bnd_of hr30) (Eq.trans (if_pos h35) (Eq.trans (bnd_of hr42) (Eq.trans (if_pos h46) (lp_l hL91))))
  obtain rfl := e.symm.trans hr
  exact ⟨rfl, H92⟩
  refine Wp.cond1 rfl (decide_eq_true h46) (Wp.seq (Wp.region (As rfl rfl (WL.nil (Fin.then (Wp.ret (Fin.thenR (Fin.res (res1 rfl rfl) ?_))))))))
  have H93 : Own w D w43 [] := H45.pick [] (by decide) rfl
  have e : r17_Owns l0 p1 p2 = false := Eq.trans (bnd_of hr30) (Eq.trans (if_pos h35) (Eq.trans (bnd_of hr42) (if_neg h46)))
  obtain rfl := e.symm.trans hr
  exact ⟨rfl, H93⟩
  refine Sk rfl rfl (decide_eq_true h35) rfl (Sk rfl rfl (decide_eq_true h35) rfl (Sk rfl rfl (decide_eq_true h35) rfl (WL.val (v := .bool true) rfl (Yl.pickT rfl (decide_eq_true h35) rfl) (WL.nil (Fin.then (Wp.cond1 rfl rfl (Wp.seq (Wp.region (As rfl rfl (WL.nil (Fin.then (Wp.ret (Fin.thenR (Fin.res (res1 rfl rfl) ?_))))))))))))))
  have H94 : Own w D w31 [] := H33.pick [] (by decide) rfl
  have e : r17_Owns l0 p1 p2 = false := Eq.trans (bnd_of hr30) (if_neg h35)
  obtain rfl := e.symm.trans hr
  exact ⟨rfl, H94⟩

def r17_Split (l0 : List OwnerD) (p1 : List UInt8) : (List OwnerD) × Int :=
  bnd (r17_Find l0 p1) fun yr26 => if yr26.2 = 0 then bnd (List.getD l0 (Int.toNat yr26.1) default) fun yx34 => if yx34.xLo = p1 then ([], 6) else if ((List.length l0 : Nat) : Int) = 6 then ([], 3) else ((((List.take (Int.toNat (yr26.1 + 1)) l0) ++ [(OwnerD.mk p1 yx34.xShard)]) ++ (List.drop (Int.toNat (yr26.1 + 1)) l0)), 0) else ([], yr26.2)

set_option maxRecDepth 100000 in
theorem r17_Split_ok (w : World) (D : Nat → Prop) (A0 : Option Addr) (n0 c0 : Nat) (l0 : List OwnerD) (p1 : List UInt8) (r0 : List OwnerD) (r1 : Int) (H : Own w D w []) (hx0 : Ro w D fun w' => Rds w' 2 A0 n0 (List.flatMap OwnerD.cells l0)) (hn0 : n0 = List.length l0) (hl0 : List.length l0 * 24 ≤ 211106232532992) (hq0 : List.length l0 ≤ c0) (hr : r17_Split l0 p1 = (r0, r1)) :
    Calls Try.prog 19 #[.slice A0 n0 c0, .string ⟨List.toArray p1⟩] w (Ret fun v w' => ∃ (B0 : Option Addr) (b0 : Nat), v = .tuple #[.slice B0 (List.length r0) b0, .int .i64 r1] ∧ Own w D w' [row B0 (List.length r0) b0 (List.flatMap OwnerD.cells r0) 39 2]) := by
  subst hn0
  refine Calls.body (args := [.slice A0 (List.length l0) c0, .string ⟨List.toArray p1⟩]) Try.func19 rfl rfl rfl ?_
  show Wp _ _ _ [(0, .slice A0 (List.length l0) c0), (1, .string ⟨List.toArray p1⟩)] _ _
  refine Wp.seq (Wp.region (As rfl rfl (As rfl rfl (WL.nil (Fin.then (Wp.seq (Wp.region (Mv rfl rfl (Mv rfl rfl ?_)))))))))
  obtain ⟨⟨r26, r27⟩, hr28⟩ : ∃ q : Int × Int, r17_Find l0 p1 = q := ⟨_, rfl⟩
  obtain ⟨D21, HP22, ro23, bk24, rr25⟩ := Own.enter0 H
  refine WL.do rfl (Do.call Try.call11 rfl (r17_Find_ok _ _ A0 (List.length l0) c0 l0 p1 r26 r27 HP22 (ro23 _ hx0) rfl (by omega) hr28) ?_)
  rintro _ w29 ⟨rfl, HQ30, hk32⟩
  have H31 : Own w D w29 [] := bk24 _ _ HQ30
  replace hk32 : ¬ (r27 = 0) ∨ (0 ≤ r26 ∧ r26 < ((List.length l0 : Nat) : Int) ∧ List.length l0 ≤ 6) := hk32
  refine Mv rfl rfl (Kn (v := .int .i64 r26) rfl rfl rfl (fun _ => by kernel_rfl) (Kn (v := .int .i64 r27) rfl rfl rfl (fun _ => by kernel_rfl) (As rfl rfl (As rfl rfl (WL.nil (Fin.then (Wp.seq (Wp.seq (Wp.region (Mv rfl rfl (WL.val (v := .bool (decide (¬ (r27 = 0)))) rfl (Yl.bool (e := !(decide (r27 = 0))) (Yl.kern rfl rfl (fun _ => by kernel_rfl)) decide_not.symm) (WL.nil (Fin.then ?_)))))))))))))
  by_cases h33 : r27 = 0
  refine Wp.cond0 rfl (decide_eq_false (not_not_intro h33)) (Wp.skip (Fin.then (Wp.seq (Wp.seq (Wp.region (Mv rfl rfl (WL.val (v := .int .i64 ((Int.toNat r26 : Nat) : Int)) rfl (Yl.int (e := r26) (Yl.move rfl) (by omega)) ?_)))))))
  obtain ⟨x34, hx35⟩ := rds_at (ls := l0) (i := Int.toNat r26) OwnerD.len (by decide) (H31.ro hx0) (by first | omega | (simp; done) | (simp; omega))
  refine WL.val (v := .pointer (some ⟨ab A0, ao A0 + (Int.toNat r26) * 2, none⟩)) rfl (Yl.indexAddr (El22) rfl rfl ((H31.ro hx0).addr (i := Int.toNat r26) (by omega)) (by omega)) (Kn (v := .pointer (some ⟨ab A0, ao A0 + (Int.toNat r26) * 2, none⟩)) rfl rfl rfl (fun _ => by kernel_rfl) (WL.val (v := .string ⟨List.toArray x34.xLo⟩) rfl (Yl.load rfl (Lds.one Try.isAgg9 (((H31.ro hx0).elem OwnerD.len hx35 (by decide)).at_ (k := 0) rfl))) (Mv rfl rfl (WL.val (v := .bool (decide (x34.xLo = p1))) rfl (Yl.strEq rfl rfl) (WL.nil (Fin.then ?_))))))
  by_cases h36 : x34.xLo = p1
  refine Wp.cond1 rfl (decide_eq_true h36) (Wp.seq (Wp.region (As rfl rfl (As rfl rfl (WL.nil (Fin.then (Wp.ret (Fin.thenR (Fin.res (res2 rfl rfl rfl) ?_)))))))))
  have H37 : Own w D w29 [row none 0 0 (List.flatMap OwnerD.cells ([])) 39 2] := H31.free (row_nil 39 2)
  have H38 : Own w D w29 [row none 0 0 (List.flatMap OwnerD.cells ([])) 39 2] := H37.pick [0] (by decide) rfl
  have e : r17_Split l0 p1 = ([], 6) := Eq.trans (bnd_of hr28) (Eq.trans (if_pos h33) (Eq.trans (bnd_of (getD_of hx35)) (if_pos h36)))
  obtain ⟨rfl, rfl⟩ := pj2 (e.symm.trans hr)
  exact ⟨none, 0, rfl, H38⟩
  refine Wp.cond0 rfl (decide_eq_false h36) (Wp.skip (Fin.then (Wp.seq (Wp.seq (Wp.region (Mv rfl rfl (Kn (v := .int .i64 ((List.length l0 : Nat) : Int)) rfl rfl rfl (fun _ => by kernel_rfl) (Kn (v := .bool (decide (((List.length l0 : Nat) : Int) = 6))) rfl rfl rfl (fun _ => by kernel_rfl) (WL.nil (Fin.then ?_))))))))))
  by_cases h39 : ((List.length l0 : Nat) : Int) = 6
  refine Wp.cond1 rfl (decide_eq_true h39) (Wp.seq (Wp.region (As rfl rfl (As rfl rfl (WL.nil (Fin.then (Wp.ret (Fin.thenR (Fin.res (res2 rfl rfl rfl) ?_)))))))))
  have H40 : Own w D w29 [row none 0 0 (List.flatMap OwnerD.cells ([])) 39 2] := H31.free (row_nil 39 2)
  have H41 : Own w D w29 [row none 0 0 (List.flatMap OwnerD.cells ([])) 39 2] := H40.pick [0] (by decide) rfl
  have e : r17_Split l0 p1 = ([], 3) := Eq.trans (bnd_of hr28) (Eq.trans (if_pos h33) (Eq.trans (bnd_of (getD_of hx35)) (Eq.trans (if_neg h36) (if_pos h39))))
  obtain ⟨rfl, rfl⟩ := pj2 (e.symm.trans hr)
  exact ⟨none, 0, rfl, H41⟩
  refine Wp.cond0 rfl (decide_eq_false h39) (Wp.skip (Fin.then (Wp.seq (Wp.region (Mv rfl rfl (Mv rfl rfl (WL.val (v := .int .i64 ((Int.toNat (r26 + 1) : Nat) : Int)) rfl (Yl.int (e := IntKind.i64.wrap (r26 + 1)) (Yl.kern rfl rfl (fun _ => by kernel_rfl)) (by rw [IntWalk.i64_in _ (by omega)]; omega)) (WL.val (v := .slice A0 (Int.toNat (r26 + 1)) c0) rfl (Yl.cutTo (El22) rfl rfl (by omega)) ?_))))))))
  have hz42 : Int.toNat (r26 + 1) = List.length (List.take (Int.toNat (r26 + 1)) l0) := (by first | rfl | omega | (simp only [List.length_append, List.length_cons, List.length_nil, List.length_take, List.length_drop, List.length_set, List.length_replicate, List.length_map] <;> omega))
  have H43 : Own w D w29 [row none 0 0 (List.flatMap OwnerD.cells ([])) 39 2] := H31.free (row_nil 39 2)
  refine WL.do rfl (Do.appendW (k := 0) (m := Int.toNat (r26 + 1)) (El22) H43 rfl rfl (src_of Try.underlying22 (Rds.toE (hi := Int.toNat (r26 + 1)) OwnerD.len (H43.ro hx0) (by omega)) (flat_one OwnerD.one (List.take (Int.toNat (r26 + 1)) l0))) rfl (by omega) (s := List.length (List.take (Int.toNat (r26 + 1)) l0)) (by first | omega | (simp only [List.length_append, List.length_cons, List.length_nil] <;> omega)) rfl ?_)
  intro A44 c45 w46 H47
  replace H47 : Own w D w46 [row A44 (List.length (List.take (Int.toNat (r26 + 1)) l0)) c45 (List.flatMap OwnerD.cells (List.take (Int.toNat (r26 + 1)) l0)) 39 2] := H47
  refine As rfl rfl (WL.nil (Fin.then (Wp.seq (Wp.region (Mv rfl rfl (Mv rfl rfl (Mv rfl rfl (WL.val (v := .int .i64 ((Int.toNat r26 : Nat) : Int)) rfl (Yl.int (e := r26) (Yl.move rfl) (by omega)) (WL.val (v := .pointer (some ⟨ab A0, ao A0 + (Int.toNat r26) * 2, none⟩)) rfl (Yl.indexAddr (El22) rfl rfl ((H47.ro hx0).addr (i := Int.toNat r26) (by omega)) (by omega)) (Kn (v := .pointer (some ⟨ab A0, ao A0 + (Int.toNat r26) * 2 + 1, none⟩)) rfl rfl rfl (fun _ => by kernel_rfl) (WL.val (v := .int .i64 x34.xShard) rfl (Yl.load rfl (Lds.one Try.isAgg3 (((H47.ro hx0).elem OwnerD.len hx35 (by decide)).at_ (k := 1) rfl))) (Kn (v := .agg #[.string ⟨List.toArray p1⟩, .int .i64 x34.xShard]) rfl rfl rfl (fun _ => by kernel_rfl) ?_))))))))))))
  refine WL.do rfl (Do.newRow (cs := [.string ⟨List.toArray p1⟩, .int .i64 x34.xShard]) (t := 39) (sz := 2) (m := 1) H47 rfl rfl (fun _ => by kernel_rfl) rfl (by decide) ?_)
  intro A48 w49 H50
  replace H50 : Own w D w49 [row A48 1 1 (List.flatMap OwnerD.cells ([(OwnerD.mk p1 x34.xShard)])) 39 2, row A44 (List.length (List.take (Int.toNat (r26 + 1)) l0)) c45 (List.flatMap OwnerD.cells (List.take (Int.toNat (r26 + 1)) l0)) 39 2] := H50
  have H51 : Own w D w49 [row A44 (List.length (List.take (Int.toNat (r26 + 1)) l0)) c45 (List.flatMap OwnerD.cells (List.take (Int.toNat (r26 + 1)) l0)) 39 2, row A48 1 1 (List.flatMap OwnerD.cells ([(OwnerD.mk p1 x34.xShard)])) 39 2] := H50.pick [1, 0] (by decide) rfl
  refine WL.do rfl (Do.appendW (k := List.length (List.take (Int.toNat (r26 + 1)) l0)) (m := 1) (El22) H51 rfl rfl (src_of Try.underlying22 (H51.rds (i := 1) rfl) (flat_one OwnerD.one ([(OwnerD.mk p1 x34.xShard)]))) rfl (by omega) (s := List.length ((List.take (Int.toNat (r26 + 1)) l0) ++ [(OwnerD.mk p1 x34.xShard)])) (by first | omega | (simp only [List.length_append, List.length_cons, List.length_nil] <;> omega)) (List.flatMap_append).symm ?_)
  intro A52 c53 w54 H55
  replace H55 : Own w D w54 [row A52 (List.length ((List.take (Int.toNat (r26 + 1)) l0) ++ [(OwnerD.mk p1 x34.xShard)])) c53 (List.flatMap OwnerD.cells ((List.take (Int.toNat (r26 + 1)) l0) ++ [(OwnerD.mk p1 x34.xShard)])) 39 2, row A48 1 1 (List.flatMap OwnerD.cells ([(OwnerD.mk p1 x34.xShard)])) 39 2] := H55
  have hl56 : List.length ((List.take (Int.toNat (r26 + 1)) l0) ++ [(OwnerD.mk p1 x34.xShard)]) = (List.length (List.take (Int.toNat (r26 + 1)) l0)) + 1 := by simp only [List.length_append, List.length_cons, List.length_nil]
  refine As rfl rfl (WL.nil (Fin.then (Wp.seq (Wp.region (Mv rfl rfl (Mv rfl rfl (Mv rfl rfl (WL.val (v := .int .i64 ((Int.toNat (r26 + 1) : Nat) : Int)) rfl (Yl.int (e := IntKind.i64.wrap (r26 + 1)) (Yl.kern rfl rfl (fun _ => by kernel_rfl)) (by rw [IntWalk.i64_in _ (by omega)]; omega)) (WL.val (v := .slice (cutA A0 (Int.toNat (r26 + 1)) 2 c0) ((List.length l0) - (Int.toNat (r26 + 1))) (c0 - (Int.toNat (r26 + 1)))) rfl (Yl.cutFrom (El22) rfl rfl (by omega)) ?_)))))))))
  have hz57 : (List.length l0) - (Int.toNat (r26 + 1)) = List.length (List.drop (Int.toNat (r26 + 1)) l0) := (by first | rfl | omega | (simp only [List.length_append, List.length_cons, List.length_nil, List.length_take, List.length_drop, List.length_set, List.length_replicate, List.length_map] <;> omega))
  refine WL.do rfl (Do.appendW (k := List.length ((List.take (Int.toNat (r26 + 1)) l0) ++ [(OwnerD.mk p1 x34.xShard)])) (m := (List.length l0) - (Int.toNat (r26 + 1))) (El22) H55 rfl rfl (src_of Try.underlying22 (Rds.fromE (lo := Int.toNat (r26 + 1)) OwnerD.len (H55.ro hx0) (by omega) (by omega) (by decide)) (flat_one OwnerD.one (List.drop (Int.toNat (r26 + 1)) l0))) rfl (by omega) (s := List.length (((List.take (Int.toNat (r26 + 1)) l0) ++ [(OwnerD.mk p1 x34.xShard)]) ++ (List.drop (Int.toNat (r26 + 1)) l0))) (by first | omega | (simp only [List.length_append, List.length_cons, List.length_nil] <;> omega)) (List.flatMap_append).symm ?_)
  intro A58 c59 w60 H61
  replace H61 : Own w D w60 [row A58 (List.length (((List.take (Int.toNat (r26 + 1)) l0) ++ [(OwnerD.mk p1 x34.xShard)]) ++ (List.drop (Int.toNat (r26 + 1)) l0))) c59 (List.flatMap OwnerD.cells (((List.take (Int.toNat (r26 + 1)) l0) ++ [(OwnerD.mk p1 x34.xShard)]) ++ (List.drop (Int.toNat (r26 + 1)) l0))) 39 2, row A48 1 1 (List.flatMap OwnerD.cells ([(OwnerD.mk p1 x34.xShard)])) 39 2] := H61
  have hl62 : List.length (((List.take (Int.toNat (r26 + 1)) l0) ++ [(OwnerD.mk p1 x34.xShard)]) ++ (List.drop (Int.toNat (r26 + 1)) l0)) = (List.length ((List.take (Int.toNat (r26 + 1)) l0) ++ [(OwnerD.mk p1 x34.xShard)])) + (List.length (List.drop (Int.toNat (r26 + 1)) l0)) := by simp only [List.length_append, List.length_cons, List.length_nil]
  refine As rfl rfl (As rfl rfl (WL.nil (Fin.then (Wp.ret (Fin.res (res2 rfl rfl rfl) ?_)))))
  have H63 : Own w D w60 [row A58 (List.length (((List.take (Int.toNat (r26 + 1)) l0) ++ [(OwnerD.mk p1 x34.xShard)]) ++ (List.drop (Int.toNat (r26 + 1)) l0))) c59 (List.flatMap OwnerD.cells (((List.take (Int.toNat (r26 + 1)) l0) ++ [(OwnerD.mk p1 x34.xShard)]) ++ (List.drop (Int.toNat (r26 + 1)) l0))) 39 2] := H61.pick [0] (by decide) rfl
  have e : r17_Split l0 p1 = ((((List.take (Int.toNat (r26 + 1)) l0) ++ [(OwnerD.mk p1 x34.xShard)]) ++ (List.drop (Int.toNat (r26 + 1)) l0)), 0) := Eq.trans (bnd_of hr28) (Eq.trans (if_pos h33) (Eq.trans (bnd_of (getD_of hx35)) (Eq.trans (if_neg h36) (if_neg h39))))
  obtain ⟨rfl, rfl⟩ := pj2 (e.symm.trans hr)
  exact ⟨A58, c59, rfl, H63⟩
  refine Wp.cond1 rfl (decide_eq_true h33) (Wp.seq (Wp.region (Mv rfl rfl (As rfl rfl (As rfl rfl (WL.nil (Fin.then (Wp.ret (Fin.thenR (Fin.res (res2 rfl rfl rfl) ?_))))))))))
  have H64 : Own w D w29 [row none 0 0 (List.flatMap OwnerD.cells ([])) 39 2] := H31.free (row_nil 39 2)
  have H65 : Own w D w29 [row none 0 0 (List.flatMap OwnerD.cells ([])) 39 2] := H64.pick [0] (by decide) rfl
  have e : r17_Split l0 p1 = ([], r27) := Eq.trans (bnd_of hr28) (if_neg h33)
  obtain ⟨rfl, rfl⟩ := pj2 (e.symm.trans hr)
  exact ⟨none, 0, rfl, H65⟩

def r17_Give (l0 : List OwnerD) (p1 : Int) (p2 : Int) : (List OwnerD) × Int :=
  bnd (r17_Check l0) fun yr26 => if yr26 = 0 then if p1 < 0 then ([], 5) else if p1 ≥ ((List.length l0 : Nat) : Int) then ([], 5) else if p2 < 1 then ([], 1) else if p2 > 4 then ([], 1) else bnd (List.getD l0 (Int.toNat p1) default) fun yx50 => ((List.set l0 (Int.toNat p1) (OwnerD.mk yx50.xLo p2)), 0) else ([], yr26)

set_option maxRecDepth 100000 in
theorem r17_Give_ok (w : World) (D : Nat → Prop) (A0 : Option Addr) (n0 c0 : Nat) (l0 : List OwnerD) (p1 : Int) (p2 : Int) (r0 : List OwnerD) (r1 : Int) (H : Own w D w []) (hx0 : Ro w D fun w' => Rds w' 2 A0 n0 (List.flatMap OwnerD.cells l0)) (hn0 : n0 = List.length l0) (hl0 : List.length l0 * 24 ≤ 211106232532992) (hr : r17_Give l0 p1 p2 = (r0, r1)) :
    Calls Try.prog 21 #[.slice A0 n0 c0, .int .i64 p1, .int .i64 p2] w (Ret fun v w' => ∃ (B0 : Option Addr) (b0 : Nat), v = .tuple #[.slice B0 (List.length r0) b0, .int .i64 r1] ∧ Own w D w' [row B0 (List.length r0) b0 (List.flatMap OwnerD.cells r0) 39 2]) := by
  subst hn0
  refine Calls.body (args := [.slice A0 (List.length l0) c0, .int .i64 p1, .int .i64 p2]) Try.func21 rfl rfl rfl ?_
  show Wp _ _ _ [(0, .slice A0 (List.length l0) c0), (1, .int .i64 p1), (2, .int .i64 p2)] _ _
  refine Wp.seq (Wp.region (As rfl rfl (As rfl rfl (WL.nil (Fin.then (Wp.seq (Wp.seq (Wp.region (Mv rfl rfl ?_)))))))))
  obtain ⟨r26, hr27⟩ : ∃ q, r17_Check l0 = q := ⟨_, rfl⟩
  obtain ⟨D21, HP22, ro23, bk24, rr25⟩ := Own.enter0 H
  refine WL.do rfl (Do.call Try.call15 rfl (r17_Check_ok _ _ A0 (List.length l0) c0 l0 r26 HP22 (ro23 _ hx0) rfl (by omega) hr27) ?_)
  rintro _ w28 ⟨rfl, HQ29, hk31⟩
  have H30 : Own w D w28 [] := bk24 _ _ HQ29
  replace hk31 : ¬ (r26 = 0) ∨ (1 ≤ List.length l0 ∧ List.length l0 ≤ 6) := hk31
  refine As rfl rfl (WL.nil (Fin.then (Wp.seq (Wp.region (Mv rfl rfl (WL.val (v := .bool (decide (¬ (r26 = 0)))) rfl (Yl.bool (e := !(decide (r26 = 0))) (Yl.kern rfl rfl (fun _ => by kernel_rfl)) decide_not.symm) (WL.nil (Fin.then ?_))))))))
  by_cases h32 : r26 = 0
  refine Wp.cond0 rfl (decide_eq_false (not_not_intro h32)) (Wp.skip (Fin.then (Wp.seq (Wp.seq (Wp.region (Mv rfl rfl (Kn (v := .bool (decide (p1 < 0))) rfl rfl rfl (fun _ => by kernel_rfl) (Mv rfl rfl ?_))))))))
  by_cases h33 : p1 < 0
  refine Sk rfl rfl (decide_eq_true h33) rfl (Sk rfl rfl (decide_eq_true h33) rfl (Sk rfl rfl (decide_eq_true h33) rfl (Sk rfl rfl (decide_eq_true h33) rfl (WL.val (v := .bool true) rfl (Yl.pickT rfl (decide_eq_true h33) rfl) (WL.nil (Fin.then (Wp.cond1 rfl rfl (Wp.seq (Wp.region (As rfl rfl (As rfl rfl (WL.nil (Fin.then (Wp.ret (Fin.thenR (Fin.res (res2 rfl rfl rfl) ?_))))))))))))))))
  have H34 : Own w D w28 [row none 0 0 (List.flatMap OwnerD.cells ([])) 39 2] := H30.free (row_nil 39 2)
  have H35 : Own w D w28 [row none 0 0 (List.flatMap OwnerD.cells ([])) 39 2] := H34.pick [0] (by decide) rfl
  have e : r17_Give l0 p1 p2 = ([], 5) := Eq.trans (bnd_of hr27) (Eq.trans (if_pos h32) (if_pos h33))
  obtain ⟨rfl, rfl⟩ := pj2 (e.symm.trans hr)
  exact ⟨none, 0, rfl, H35⟩
  refine WL.valG (v := .int .i64 p1) rfl rfl (decide_eq_false h33) rfl (Yl.move rfl) (WL.valG (v := .slice A0 (List.length l0) c0) rfl rfl (decide_eq_false h33) rfl (Yl.move rfl) (WL.valG (v := .int .i64 ((List.length l0 : Nat) : Int)) rfl rfl (decide_eq_false h33) rfl (Yl.kern rfl rfl (fun _ => by kernel_rfl)) (WL.valG (v := .bool (decide (p1 ≥ ((List.length l0 : Nat) : Int)))) rfl rfl (decide_eq_false h33) rfl (Yl.kern rfl rfl (fun _ => by kernel_rfl)) (WL.val (v := .bool (decide (p1 ≥ ((List.length l0 : Nat) : Int)))) rfl (Yl.pickF rfl (decide_eq_false h33) rfl) (WL.nil (Fin.then ?_))))))
  by_cases h36 : p1 ≥ ((List.length l0 : Nat) : Int)
  refine Wp.cond1 rfl (decide_eq_true h36) (Wp.seq (Wp.region (As rfl rfl (As rfl rfl (WL.nil (Fin.then (Wp.ret (Fin.thenR (Fin.res (res2 rfl rfl rfl) ?_)))))))))
  have H37 : Own w D w28 [row none 0 0 (List.flatMap OwnerD.cells ([])) 39 2] := H30.free (row_nil 39 2)
  have H38 : Own w D w28 [row none 0 0 (List.flatMap OwnerD.cells ([])) 39 2] := H37.pick [0] (by decide) rfl
  have e : r17_Give l0 p1 p2 = ([], 5) := Eq.trans (bnd_of hr27) (Eq.trans (if_pos h32) (Eq.trans (if_neg h33) (if_pos h36)))
  obtain ⟨rfl, rfl⟩ := pj2 (e.symm.trans hr)
  exact ⟨none, 0, rfl, H38⟩
  refine Wp.cond0 rfl (decide_eq_false h36) (Wp.skip (Fin.then (Wp.seq (Wp.seq (Wp.region (Mv rfl rfl (Kn (v := .bool (decide (p2 < 1))) rfl rfl rfl (fun _ => by kernel_rfl) (Mv rfl rfl ?_))))))))
  by_cases h39 : p2 < 1
  refine Sk rfl rfl (decide_eq_true h39) rfl (Sk rfl rfl (decide_eq_true h39) rfl (WL.val (v := .bool true) rfl (Yl.pickT rfl (decide_eq_true h39) rfl) (WL.nil (Fin.then (Wp.cond1 rfl rfl (Wp.seq (Wp.region (As rfl rfl (As rfl rfl (WL.nil (Fin.then (Wp.ret (Fin.thenR (Fin.res (res2 rfl rfl rfl) ?_))))))))))))))
  have H40 : Own w D w28 [row none 0 0 (List.flatMap OwnerD.cells ([])) 39 2] := H30.free (row_nil 39 2)
  have H41 : Own w D w28 [row none 0 0 (List.flatMap OwnerD.cells ([])) 39 2] := H40.pick [0] (by decide) rfl
  have e : r17_Give l0 p1 p2 = ([], 1) := Eq.trans (bnd_of hr27) (Eq.trans (if_pos h32) (Eq.trans (if_neg h33) (Eq.trans (if_neg h36) (if_pos h39))))
  obtain ⟨rfl, rfl⟩ := pj2 (e.symm.trans hr)
  exact ⟨none, 0, rfl, H41⟩
  refine WL.valG (v := .int .i64 p2) rfl rfl (decide_eq_false h39) rfl (Yl.move rfl) (WL.valG (v := .bool (decide (p2 > 4))) rfl rfl (decide_eq_false h39) rfl (Yl.kern rfl rfl (fun _ => by kernel_rfl)) (WL.val (v := .bool (decide (p2 > 4))) rfl (Yl.pickF rfl (decide_eq_false h39) rfl) (WL.nil (Fin.then ?_))))
  by_cases h42 : p2 > 4
  refine Wp.cond1 rfl (decide_eq_true h42) (Wp.seq (Wp.region (As rfl rfl (As rfl rfl (WL.nil (Fin.then (Wp.ret (Fin.thenR (Fin.res (res2 rfl rfl rfl) ?_)))))))))
  have H43 : Own w D w28 [row none 0 0 (List.flatMap OwnerD.cells ([])) 39 2] := H30.free (row_nil 39 2)
  have H44 : Own w D w28 [row none 0 0 (List.flatMap OwnerD.cells ([])) 39 2] := H43.pick [0] (by decide) rfl
  have e : r17_Give l0 p1 p2 = ([], 1) := Eq.trans (bnd_of hr27) (Eq.trans (if_pos h32) (Eq.trans (if_neg h33) (Eq.trans (if_neg h36) (Eq.trans (if_neg h39) (if_pos h42)))))
  obtain ⟨rfl, rfl⟩ := pj2 (e.symm.trans hr)
  exact ⟨none, 0, rfl, H44⟩
  refine Wp.cond0 rfl (decide_eq_false h42) (Wp.skip (Fin.then (Wp.seq (Wp.region (Mv rfl rfl ?_)))))
  have H45 : Own w D w28 [row none 0 0 (List.flatMap OwnerD.cells ([])) 39 2] := H30.free (row_nil 39 2)
  refine WL.do rfl (Do.appendW (k := 0) (m := List.length l0) (El22) H45 rfl rfl (src_of Try.underlying22 (H45.ro hx0) (flat_one OwnerD.one l0)) rfl (by omega) (s := List.length l0) (by omega) rfl ?_)
  intro A46 c47 w48 H49
  replace H49 : Own w D w48 [row A46 (List.length l0) c47 (List.flatMap OwnerD.cells l0) 39 2] := H49
  refine As rfl rfl (WL.nil (Fin.then (Wp.seq (Wp.region (Mv rfl rfl (WL.val (v := .int .i64 ((Int.toNat p1 : Nat) : Int)) rfl (Yl.int (e := p1) (Yl.move rfl) (by omega)) (Mv rfl rfl ?_)))))))
  obtain ⟨x50, hx51⟩ := rds_at (ls := l0) (i := Int.toNat p1) OwnerD.len (by decide) (H49.rds (i := 0) rfl) (by first | omega | (simp; done) | (simp; omega))
  refine WL.val (v := .pointer (some ⟨ab A46, ao A46 + (Int.toNat p1) * 2, none⟩)) rfl (Yl.indexAddr (El22) rfl rfl ((H49.rds (i := 0) rfl).addr (i := Int.toNat p1) (by omega)) (by omega)) (Kn (v := .pointer (some ⟨ab A46, ao A46 + (Int.toNat p1) * 2 + 1, none⟩)) rfl rfl rfl (fun _ => by kernel_rfl) ?_)
  refine WL.do0 (Do.storeRow (vs := [.int .i64 p2]) (o := (Int.toNat p1) * 2 + 1) (q := ao A46 + (Int.toNat p1) * 2 + 1) H49 rfl (by omega) rfl Try.sizeOf3 rfl rfl (Nat.le_of_ble_eq_true rfl) (store_fits OwnerD.len hx51 (Nat.le_of_ble_eq_true rfl)) (flat_set (y := (OwnerD.mk x50.xLo p2)) OwnerD.len rfl (Nat.le_of_ble_eq_true rfl) hx51) ?_)
  intro w52 H53
  replace H53 : Own w D w52 [row A46 (List.length l0) c47 (List.flatMap OwnerD.cells (List.set l0 (Int.toNat p1) (OwnerD.mk x50.xLo p2))) 39 2] := H53
  refine WL.nil (Fin.then (Wp.seq (Wp.region (Mv rfl rfl (As rfl rfl (As rfl rfl (WL.nil (Fin.then (Wp.ret (Fin.res (res2 rfl rfl rfl) ?_))))))))))
  have hn54 : List.length l0 = List.length (List.set l0 (Int.toNat p1) (OwnerD.mk x50.xLo p2)) := by first | omega | (simp only [List.length_set]; done) | (simp only [List.length_set, List.length_append, List.length_cons, List.length_nil, List.length_take, List.length_drop, List.length_replicate]; omega)
  have H55 : Own w D w52 [row A46 (List.length (List.set l0 (Int.toNat p1) (OwnerD.mk x50.xLo p2))) c47 (List.flatMap OwnerD.cells (List.set l0 (Int.toNat p1) (OwnerD.mk x50.xLo p2))) 39 2] := by rw [← hn54]; exact H53
  have H56 : Own w D w52 [row A46 (List.length (List.set l0 (Int.toNat p1) (OwnerD.mk x50.xLo p2))) c47 (List.flatMap OwnerD.cells (List.set l0 (Int.toNat p1) (OwnerD.mk x50.xLo p2))) 39 2] := H55.pick [0] (by decide) rfl
  have e : r17_Give l0 p1 p2 = ((List.set l0 (Int.toNat p1) (OwnerD.mk x50.xLo p2)), 0) := Eq.trans (bnd_of hr27) (Eq.trans (if_pos h32) (Eq.trans (if_neg h33) (Eq.trans (if_neg h36) (Eq.trans (if_neg h39) (Eq.trans (if_neg h42) (bnd_of (getD_of hx51)))))))
  obtain ⟨rfl, rfl⟩ := pj2 (e.symm.trans hr)
  exact ⟨A46, c47, (by first | rfl | (rw [← hn54]; done) | (rw [← hn54]; rfl)), H56⟩
  refine Wp.cond1 rfl (decide_eq_true h32) (Wp.seq (Wp.region (Mv rfl rfl (As rfl rfl (As rfl rfl (WL.nil (Fin.then (Wp.ret (Fin.thenR (Fin.res (res2 rfl rfl rfl) ?_))))))))))
  have H57 : Own w D w28 [row none 0 0 (List.flatMap OwnerD.cells ([])) 39 2] := H30.free (row_nil 39 2)
  have H58 : Own w D w28 [row none 0 0 (List.flatMap OwnerD.cells ([])) 39 2] := H57.pick [0] (by decide) rfl
  have e : r17_Give l0 p1 p2 = ([], r26) := Eq.trans (bnd_of hr27) (if_neg h32)
  obtain ⟨rfl, rfl⟩ := pj2 (e.symm.trans hr)
  exact ⟨none, 0, rfl, H58⟩

def r17_Same_L0 (l1 : List OwnerD) : List OwnerD → Nat → Unit ⊕ Bool
  | [], k22 => Sum.inl ()
  | x31 :: q23, k22 => bnd (List.getD l1 k22 default) fun yx36 => if (x31.xLo = yx36.xLo) ∧ (x31.xShard = yx36.xShard) then r17_Same_L0 l1 q23 (k22 + 1) else Sum.inr (false)

def r17_Same (l0 : List OwnerD) (l1 : List OwnerD) : Bool :=
  if ((List.length l0 : Nat) : Int) = ((List.length l1 : Nat) : Int) then lp (r17_Same_L0 l1 l0 0) fun _ => true else false

set_option maxRecDepth 100000 in
theorem r17_Same_ok (w : World) (D : Nat → Prop) (A0 : Option Addr) (n0 c0 : Nat) (l0 : List OwnerD) (A1 : Option Addr) (n1 c1 : Nat) (l1 : List OwnerD) (r0 : Bool) (H : Own w D w []) (hx0 : Ro w D fun w' => Rds w' 2 A0 n0 (List.flatMap OwnerD.cells l0)) (hn0 : n0 = List.length l0) (hl0 : List.length l0 ≤ 9223372036854775807) (hx1 : Ro w D fun w' => Rds w' 2 A1 n1 (List.flatMap OwnerD.cells l1)) (hn1 : n1 = List.length l1) (hl1 : List.length l1 ≤ 9223372036854775807) (hr : r17_Same l0 l1 = r0) :
    Calls Try.prog 22 #[.slice A0 n0 c0, .slice A1 n1 c1] w (Ret fun v w' => v = .bool r0 ∧ Own w D w' []) := by
  subst hn0 hn1
  refine Calls.body (args := [.slice A0 (List.length l0) c0, .slice A1 (List.length l1) c1]) Try.func22 rfl rfl rfl ?_
  show Wp _ _ _ [(0, .slice A0 (List.length l0) c0), (1, .slice A1 (List.length l1) c1)] _ _
  refine Wp.seq (Wp.region (As rfl rfl (WL.nil (Fin.then (Wp.seq (Wp.seq (Wp.region (Mv rfl rfl (Kn (v := .int .i64 ((List.length l0 : Nat) : Int)) rfl rfl rfl (fun _ => by kernel_rfl) (Mv rfl rfl (Kn (v := .int .i64 ((List.length l1 : Nat) : Int)) rfl rfl rfl (fun _ => by kernel_rfl) (WL.val (v := .bool (decide (¬ (((List.length l0 : Nat) : Int) = ((List.length l1 : Nat) : Int))))) rfl (Yl.bool (e := !(decide (((List.length l0 : Nat) : Int) = ((List.length l1 : Nat) : Int)))) (Yl.kern rfl rfl (fun _ => by kernel_rfl)) decide_not.symm) (WL.nil (Fin.then ?_))))))))))))))
  by_cases h21 : ((List.length l0 : Nat) : Int) = ((List.length l1 : Nat) : Int)
  refine Wp.cond0 rfl (decide_eq_false (not_not_intro h21)) (Wp.skip (Fin.then (Wp.seq (Wp.seq (Wp.region (Mv rfl rfl (Kn (v := .int .i64 ((List.length l0 : Nat) : Int)) rfl rfl rfl (fun _ => by kernel_rfl) (Mv rfl rfl (WL.nil (Fin.then (Wp.block ?_)))))))))))
  have H24 : Own w D w [] := H.pick [] (by decide) rfl
  refine Wp.loop (ι := Nat) (fun i => [(4, .bool false), (13, .int .i64 ((i : Nat) : Int)), (12, .int .i64 ((List.length l0 : Nat) : Int)), (0, .slice A0 (List.length l0) c0), (1, .slice A1 (List.length l1) c1)]) (fun (i : Nat) w' => Own w D w' [] ∧ (i ≤ List.length l0 ∧ r17_Same_L0 l1 l0 0 = r17_Same_L0 l1 (List.drop i l0) i)) (fun i => List.length l0 - i) 0 ⟨rfl, rfl, rfl, rfl, rfl, trivial⟩ ⟨H24, (show 0 ≤ List.length l0 ∧ r17_Same_L0 l1 l0 0 = r17_Same_L0 l1 (List.drop 0 l0) 0 from ⟨by omega, rfl⟩)⟩ ?_
  rintro k22 w25 ⟨H26, hf27⟩
  show Wp _ _ _ [(4, .bool false), (13, .int .i64 ((k22 : Nat) : Int)), (12, .int .i64 ((List.length l0 : Nat) : Int)), (0, .slice A0 (List.length l0) c0), (1, .slice A1 (List.length l1) c1)] _ _
  replace H26 : Own w D w25 [] := H26
  replace hf27 : k22 ≤ List.length l0 ∧ r17_Same_L0 l1 l0 0 = r17_Same_L0 l1 (List.drop k22 l0) k22 := hf27
  obtain ⟨hi29, hq28⟩ := hf27
  refine Wp.seq (Wp.region (Kn (v := .bool (decide (((k22 : Nat) : Int) < ((List.length l0 : Nat) : Int)))) rfl rfl rfl (fun _ => by kernel_rfl) (WL.nil (Fin.then (Wp.seq ?_)))))
  by_cases h30 : ((k22 : Nat) : Int) < ((List.length l0 : Nat) : Int)
  obtain ⟨x31, hx32⟩ := rds_at (ls := l0) (i := k22) OwnerD.len (by decide) (H26.ro hx0) (by first | omega | (simp; done) | (simp; omega))
  have hd33 := drop_at hx32
  refine Wp.cond1 rfl (decide_eq_true h30) (Wp.skip (Fin.then (Wp.seq (Wp.block (Wp.seq (Wp.region (Mv rfl rfl (As rfl rfl (WL.nil (Fin.then (Wp.seq ?_)))))))))))
  have H35 := H26.drew
  refine Wp.drawnX [] (fun W => ∃ L', Own w D W ([] ++ L')) (by kernel_rfl) (by kernel_rfl) (NoP.then (NoP.block (NoP.then (NoP.then (NoP.block (NoP.then NoP.base)))))) ⟨_, H35⟩ ?_
  revert H35
  generalize World.drew w25 = w34
  intro H35
  replace H35 : Own w D w34 [] := H35
  refine GX.take (v := .slice A0 (List.length l0) c0) (rs := []) 0 rfl (by kernel_rfl) (fun _ _ => Yl.move rfl) (GX.take (v := .int .i64 ((k22 : Nat) : Int)) (rs := []) 1 rfl (by kernel_rfl) (fun _ _ => Yl.move rfl) (GX.take (v := .pointer (some ⟨ab A0, ao A0 + k22 * 2, none⟩)) (rs := []) 2 rfl (by kernel_rfl) (fun _ ⟨_, H9⟩ => Yl.indexAddr (El22) rfl rfl ((H9.ro hx0).addr (i := k22) (by omega)) (by omega)) (GX.take (v := .agg (OwnerD.cells x31).toArray) (rs := []) 3 rfl (by kernel_rfl) (fun _ ⟨_, H9⟩ => Yl.load rfl (Lds.agg (cs := (OwnerD.cells x31)) Try.isAgg39 Try.sizeOf39 ((H9.ro hx0).elem OwnerD.len hx32 (by decide)))) (GX.take (v := .slice A1 (List.length l1) c1) (rs := []) 4 rfl (by kernel_rfl) (fun _ _ => Yl.move rfl) (GX.take (v := .int .i64 ((k22 : Nat) : Int)) (rs := []) 5 rfl (by kernel_rfl) (fun _ _ => Yl.move rfl) ?_)))))
  obtain ⟨x36, hx37⟩ := at_of (ls := l1) (i := k22) (by first | omega | (simp; done) | (simp; omega))
  refine GX.take (v := .pointer (some ⟨ab A1, ao A1 + k22 * 2, none⟩)) (rs := []) 6 rfl (by kernel_rfl) (fun _ ⟨_, H9⟩ => Yl.indexAddr (El22) rfl rfl ((H9.ro hx1).addr (i := k22) (by omega)) (by omega)) (GX.take (v := .agg (OwnerD.cells x36).toArray) (rs := []) 7 rfl (by kernel_rfl) (fun _ ⟨_, H9⟩ => Yl.load rfl (Lds.agg (cs := (OwnerD.cells x36)) Try.isAgg39 Try.sizeOf39 ((H9.ro hx1).elem OwnerD.len hx37 (by decide)))) (GX.take (v := .bool (decide (¬ ((x31.xLo = x36.xLo) ∧ (x31.xShard = x36.xShard))))) (rs := []) 8 rfl (by kernel_rfl) (fun _ _ => Yl.bool (e := !(decide ((x31.xLo = x36.xLo) ∧ (x31.xShard = x36.xShard)))) (Yl.neAgg rfl rfl (by kernel_rfl) rfl (Eqv.struct Try.underlying39 (by kernel_rfl) (EqF.dec (EqF.cons (u := .string ⟨List.toArray x31.xLo⟩) (v := .string ⟨List.toArray x36.xLo⟩) (by decide) (fun _ => by kernel_rfl) (fun _ => by kernel_rfl) (Eqv.string Try.underlying9) (EqF.cons (u := .int .i64 x31.xShard) (v := .int .i64 x36.xShard) (by decide) (fun _ => by kernel_rfl) (fun _ => by kernel_rfl) (Eqv.int Try.underlying3) (EqF.nil.up (Nat.zero_le _)))) ((congrArg (decide (x31.xLo = x36.xLo) && ·) and_dec1).trans and_dec)))) decide_not.symm) (GX.done (by kernel_rfl) (Fin.then ?_))))
  by_cases h38 : (x31.xLo = x36.xLo) ∧ (x31.xShard = x36.xShard)
  refine Wp.cond0 rfl (decide_eq_false (not_not_intro h38)) (Wp.skip (Fin.blockN (Fin.then (Wp.region (WL.val (v := .int .i64 ((k22 + 1 : Nat) : Int)) rfl (Yl.int (e := IntKind.i64.wrap (((k22 : Nat) : Int) + 1)) (Yl.kern rfl rfl (fun _ => by kernel_rfl)) (by rw [IntWalk.i64_in _ (by omega)]; omega)) (Mv rfl rfl (WL.nil ?_)))))))
  have H39 : Own w D w34 [] := H35.pick [] (by decide) rfl
  exact Fin.round (k22 + 1) ⟨rfl, rfl, rfl, rfl, rfl, trivial⟩ ⟨H39, (show (k22 + 1) ≤ List.length l0 ∧ r17_Same_L0 l1 l0 0 = r17_Same_L0 l1 (List.drop (k22 + 1) l0) (k22 + 1) from ⟨by omega, Eq.trans (hq28) (Eq.trans (congrArg (fun q => r17_Same_L0 l1 q k22) hd33) (Eq.trans (bnd_of (getD_of hx37)) (if_pos h38)))⟩)⟩ (by show List.length l0 - (k22 + 1) < List.length l0 - k22; omega)
  refine Wp.cond1 rfl (decide_eq_true h38) (Wp.seq (Wp.region (As rfl rfl (WL.nil (Fin.then (Wp.ret (Fin.blockR (Fin.thenR (Fin.thenR (Fin.blockR (Fin.thenR (Fin.res (res1 rfl rfl) ?_))))))))))))
  have H40 : Own w D w34 [] := H35.pick [] (by decide) rfl
  have e : r17_Same l0 l1 = false := Eq.trans (if_pos h21) (lp_r (Eq.trans (hq28) (Eq.trans (congrArg (fun q => r17_Same_L0 l1 q k22) hd33) (Eq.trans (bnd_of (getD_of hx37)) (if_neg h38)))))
  obtain rfl := e.symm.trans hr
  exact ⟨rfl, H40⟩
  refine Wp.cond0 rfl (decide_eq_false h30) (Wp.exit (Fin.thenX ?_))
  have hL41 : r17_Same_L0 l1 l0 0 = Sum.inl () := Eq.trans (hq28) (Eq.trans (congrArg (fun q => r17_Same_L0 l1 q k22) (drop_end (ls := l0) (i := k22) (by omega))) rfl)
  refine Fin.thenX (Fin.blockX (Fin.then (Wp.seq (Wp.region (As rfl rfl (WL.nil (Fin.then (Wp.ret (Fin.res (res1 rfl rfl) ?_)))))))))
  have H42 : Own w D w25 [] := H26.pick [] (by decide) rfl
  have e : r17_Same l0 l1 = true := Eq.trans (if_pos h21) (lp_l hL41)
  obtain rfl := e.symm.trans hr
  exact ⟨rfl, H42⟩
  refine Wp.cond1 rfl (decide_eq_true h21) (Wp.seq (Wp.region (As rfl rfl (WL.nil (Fin.then (Wp.ret (Fin.thenR (Fin.res (res1 rfl rfl) ?_))))))))
  have H43 : Own w D w [] := H.pick [] (by decide) rfl
  have e : r17_Same l0 l1 = false := if_neg h21
  obtain rfl := e.symm.trans hr
  exact ⟨rfl, H43⟩
end Go.Proofs.Ytcjjblkgbfaapaa
