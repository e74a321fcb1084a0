/-
  owner: which are owners, where a key is, what is split and given.
-/
import Derived.Test.YtcjjblkgbfaapaaKo
namespace Go.Proofs.Ytcjjblkgbfaapaa
open Go.RowKit
set_option linter.unusedVariables false
set_option linter.unusedSectionVars false
set_option linter.unusedSimpArgs false

theorem El22 : Elem Try.prog 22 39 2 24 := elem_of (z := .agg #[.string ⟨List.toArray ([])⟩, .int .i64 0]) Try.underlying22 (by kernel_rfl) rfl (by decide)

structure OwnerD where
  xLo : List UInt8
  xShard : Int

def OwnerD.cells (x : OwnerD) : List Value := [.string ⟨List.toArray x.xLo⟩, .int .i64 x.xShard]

theorem OwnerD.len : ∀ x, (OwnerD.cells x).length = 2 := fun _ => rfl

theorem OwnerD.one : ∀ x, ∀ u ∈ OwnerD.cells x, u.oneCell' = true := fun x u hu => by
  simp only [OwnerD.cells, List.mem_cons, List.not_mem_nil, or_false] at hu
  rcases hu with rfl | rfl <;> rfl

def OwnerD.Ok (w : World) (x : OwnerD) : Prop := (List.length x.xLo ≤ 140737488351232) ∧ ((-9223372036854775808) ≤ x.xShard ∧ x.xShard ≤ 9223372036854775807)

set_option maxRecDepth 100000 in
theorem opens_OwnerD (w : World) : Opens Try.prog w 39 2 OwnerD.cells (OwnerD.Ok w) :=
  (opens_struct (sz := 2) Try.underlying39 (by kernel_rfl) (OpensF.cons (i := 0) (off := 0) (s := 1) rfl rfl (opens_string Try.underlying9 (by kernel_rfl)) (OpensF.cons (i := 1) (off := 1) (s := 1) rfl rfl (opens_int (k := .i64) (lo := -9223372036854775808) (hi := 9223372036854775807) Try.underlying3 (by kernel_rfl) (by decide) (by decide)) OpensF.nil))).map (fun p => ⟨p.1, p.2.1⟩) OwnerD.len (fun _ => rfl) fun _ h => ⟨h.1, h.2.1⟩

instance : Inhabited OwnerD := ⟨⟨default, default⟩⟩

def owner_isShard (p0 : Int) : Bool :=
  if p0 ≥ 1 then decide (p0 ≤ 4) else false

set_option maxRecDepth 100000 in
theorem owner_isShard_ok (w : World) (D : Nat → Prop) (p0 : Int) (r0 : Bool) (H : Own w D w [])  (hr : owner_isShard p0 = r0) :
    Calls Try.prog 38 #[.int .i64 p0] w (Ret fun v w' => v = .bool r0 ∧ Own w D w' []) := by
  refine Calls.body (args := [.int .i64 p0]) Try.func38 rfl rfl rfl ?_
  show Wp _ _ _ [(0, .int .i64 p0)] _ _
  refine Wp.seq (Wp.region (As rfl rfl (WL.nil (Fin.then (Wp.seq (Wp.region (Mv rfl rfl (Kn (v := .bool (decide (p0 ≥ 1))) rfl rfl rfl (fun _ => by kernel_rfl) (Mv rfl rfl ?_)))))))))
  by_cases h21 : p0 ≥ 1
  refine WL.valG (v := .int .i64 p0) rfl rfl (decide_eq_true h21) rfl (Yl.move rfl) (WL.valG (v := .bool (decide (p0 ≤ 4))) rfl rfl (decide_eq_true h21) rfl (Yl.kern rfl rfl (fun _ => by kernel_rfl)) (WL.val (v := .bool (decide (p0 ≤ 4))) rfl (Yl.pickT rfl (decide_eq_true h21) rfl) (As rfl rfl (WL.nil (Fin.then (Wp.ret (Fin.res (res1 rfl rfl) ?_)))))))
  have H22 : Own w D w [] := H.pick [] (by decide) rfl
  have e : owner_isShard p0 = decide (p0 ≤ 4) := if_pos h21
  obtain rfl := e.symm.trans hr
  exact ⟨rfl, H22⟩
  refine Sk rfl rfl (decide_eq_false h21) rfl (Sk rfl rfl (decide_eq_false h21) rfl (WL.val (v := .bool false) rfl (Yl.pickF rfl (decide_eq_false h21) rfl) (As rfl rfl (WL.nil (Fin.then (Wp.ret (Fin.res (res1 rfl rfl) ?_)))))))
  have H23 : Own w D w [] := H.pick [] (by decide) rfl
  have e : owner_isShard p0 = false := if_neg h21
  obtain rfl := e.symm.trans hr
  exact ⟨rfl, H23⟩

def span_CheckKey (p0 : List UInt8) : Int :=
  if ((List.length p0 : Nat) : Int) < 1 then 20 else if ((List.length p0 : Nat) : Int) > 12 then 20 else 0

set_option maxRecDepth 100000 in
theorem span_CheckKey_ok (w : World) (D : Nat → Prop) (p0 : List UInt8) (r0 : Int) (H : Own w D w [])  (hr : span_CheckKey p0 = r0) :
    Calls Try.prog 31 #[.string ⟨List.toArray p0⟩] w (Ret fun v w' => v = .int .i64 r0 ∧ Own w D w' [] ∧ (¬ (r0 = 0) ∨ (1 ≤ List.length p0 ∧ List.length p0 ≤ 12)) ∧ (List.length p0 < 1 ∨ List.length p0 > 12 ∨ r0 = 0)) := by
  refine Calls.body (args := [.string ⟨List.toArray p0⟩]) Try.func31 rfl rfl rfl ?_
  show Wp _ _ _ [(0, .string ⟨List.toArray p0⟩)] _ _
  refine Wp.seq (Wp.region (As rfl rfl (WL.nil (Fin.then (Wp.seq (Wp.seq (Wp.region (Mv rfl rfl (Kn (v := .int .i64 ((List.length p0 : Nat) : Int)) rfl rfl rfl (fun _ => by kernel_rfl) (Kn (v := .bool (decide (((List.length p0 : Nat) : Int) < 1))) rfl rfl rfl (fun _ => by kernel_rfl) (Mv rfl rfl ?_)))))))))))
  by_cases h21 : ((List.length p0 : Nat) : Int) < 1
  refine Sk rfl rfl (decide_eq_true h21) rfl (Sk rfl rfl (decide_eq_true h21) rfl (Sk rfl rfl (decide_eq_true h21) rfl (WL.val (v := .bool true) rfl (Yl.pickT rfl (decide_eq_true h21) rfl) (WL.nil (Fin.then (Wp.cond1 rfl rfl (Wp.seq (Wp.region (As rfl rfl (WL.nil (Fin.then (Wp.ret (Fin.thenR (Fin.res (res1 rfl rfl) ?_))))))))))))))
  have H22 : Own w D w [] := H.pick [] (by decide) rfl
  have e : span_CheckKey p0 = 20 := if_pos h21
  obtain rfl := e.symm.trans hr
  exact ⟨rfl, H22, (by omega), (by omega)⟩
  refine WL.valG (v := .string ⟨List.toArray p0⟩) rfl rfl (decide_eq_false h21) rfl (Yl.move rfl) (WL.valG (v := .int .i64 ((List.length p0 : Nat) : Int)) rfl rfl (decide_eq_false h21) rfl (Yl.kern rfl rfl (fun _ => by kernel_rfl)) (WL.valG (v := .bool (decide (((List.length p0 : Nat) : Int) > 12))) rfl rfl (decide_eq_false h21) rfl (Yl.kern rfl rfl (fun _ => by kernel_rfl)) (WL.val (v := .bool (decide (((List.length p0 : Nat) : Int) > 12))) rfl (Yl.pickF rfl (decide_eq_false h21) rfl) (WL.nil (Fin.then ?_)))))
  by_cases h23 : ((List.length p0 : Nat) : Int) > 12
  refine Wp.cond1 rfl (decide_eq_true h23) (Wp.seq (Wp.region (As rfl rfl (WL.nil (Fin.then (Wp.ret (Fin.thenR (Fin.res (res1 rfl rfl) ?_))))))))
  have H24 : Own w D w [] := H.pick [] (by decide) rfl
  have e : span_CheckKey p0 = 20 := Eq.trans (if_neg h21) (if_pos h23)
  obtain rfl := e.symm.trans hr
  exact ⟨rfl, H24, (by omega), (by omega)⟩
  refine Wp.cond0 rfl (decide_eq_false h23) (Wp.skip (Fin.then (Wp.seq (Wp.region (As rfl rfl (WL.nil (Fin.then (Wp.ret (Fin.res (res1 rfl rfl) ?_)))))))))
  have H25 : Own w D w [] := H.pick [] (by decide) rfl
  have e : span_CheckKey p0 = 0 := Eq.trans (if_neg h21) (if_neg h23)
  obtain rfl := e.symm.trans hr
  exact ⟨rfl, H25, (by omega), (by omega)⟩

def owner_Check_L0 (l0 : List OwnerD) : List OwnerD → Nat → Unit ⊕ Int
  | [], k29 => Sum.inl ()
  | x38 :: q30, k29 => bnd (owner_isShard x38.xShard) fun yr46 => if yr46 = true then if ((k29 : Nat) : Int) > 0 then bnd (span_CheckKey x38.xLo) fun yr60 => if yr60 = 0 then bnd (List.getD l0 (k29 - 1) default) fun yx68 => if x38.xLo ≤ yx68.xLo then Sum.inr (170) else owner_Check_L0 l0 q30 (k29 + 1) else Sum.inr (170) else owner_Check_L0 l0 q30 (k29 + 1) else Sum.inr (170)

def owner_Check (l0 : List OwnerD) : Int :=
  if ((List.length l0 : Nat) : Int) < 1 then 170 else if ((List.length l0 : Nat) : Int) > 6 then 170 else bnd (List.getD l0 0 default) fun yx25 => if yx25.xLo ≠ ([]) then 170 else lp (owner_Check_L0 l0 l0 0) fun _ => 0

set_option maxRecDepth 100000 in
theorem owner_Check_ok (w : World) (D : Nat → Prop) (A0 : Option Addr) (n0 c0 : Nat) (l0 : List OwnerD) (r0 : Int) (H : Own w D w []) (hx0 : Ro w D fun w' => Rds w' 2 A0 n0 (List.flatMap OwnerD.cells l0)) (hn0 : n0 = List.length l0) (hl0 : List.length l0 * 24 ≤ 211106232532992) (hr : owner_Check l0 = r0) :
    Calls Try.prog 14 #[.slice A0 n0 c0] w (Ret fun v w' => v = .int .i64 r0 ∧ Own w D w' [] ∧ (¬ (r0 = 0) ∨ (1 ≤ List.length l0 ∧ List.length l0 ≤ 6))) := by
  subst hn0
  refine Calls.body (args := [.slice A0 (List.length l0) c0]) Try.func14 rfl rfl rfl ?_
  show Wp _ _ _ [(0, .slice A0 (List.length l0) c0)] _ _
  refine Wp.seq (Wp.region (As rfl rfl (WL.nil (Fin.then (Wp.seq (Wp.seq (Wp.region (Mv rfl rfl (Kn (v := .int .i64 ((List.length l0 : Nat) : Int)) rfl rfl rfl (fun _ => by kernel_rfl) (Kn (v := .bool (decide (((List.length l0 : Nat) : Int) < 1))) rfl rfl rfl (fun _ => by kernel_rfl) (Mv rfl rfl ?_)))))))))))
  by_cases h21 : ((List.length l0 : Nat) : Int) < 1
  refine Sk rfl rfl (decide_eq_true h21) rfl (Sk rfl rfl (decide_eq_true h21) rfl (Sk rfl rfl (decide_eq_true h21) rfl (WL.val (v := .bool true) rfl (Yl.pickT rfl (decide_eq_true h21) rfl) (Mv rfl rfl (Sk rfl rfl rfl rfl (Sk rfl rfl rfl rfl (Sk rfl rfl rfl rfl (Sk rfl rfl rfl rfl (Sk rfl rfl rfl rfl (WL.val (v := .bool true) rfl (Yl.pickT rfl rfl rfl) (WL.nil (Fin.then (Wp.cond1 rfl rfl (Wp.seq (Wp.region (As rfl rfl (WL.nil (Fin.then (Wp.ret (Fin.thenR (Fin.res (res1 rfl rfl) ?_)))))))))))))))))))))
  have H22 : Own w D w [] := H.pick [] (by decide) rfl
  have e : owner_Check l0 = 170 := if_pos h21
  obtain rfl := e.symm.trans hr
  exact ⟨rfl, H22, (by omega)⟩
  refine WL.valG (v := .slice A0 (List.length l0) c0) rfl rfl (decide_eq_false h21) rfl (Yl.move rfl) (WL.valG (v := .int .i64 ((List.length l0 : Nat) : Int)) rfl rfl (decide_eq_false h21) rfl (Yl.kern rfl rfl (fun _ => by kernel_rfl)) (WL.valG (v := .bool (decide (((List.length l0 : Nat) : Int) > 6))) rfl rfl (decide_eq_false h21) rfl (Yl.kern rfl rfl (fun _ => by kernel_rfl)) (WL.val (v := .bool (decide (((List.length l0 : Nat) : Int) > 6))) rfl (Yl.pickF rfl (decide_eq_false h21) rfl) (Mv rfl rfl ?_))))
  by_cases h23 : ((List.length l0 : Nat) : Int) > 6
  refine Sk rfl rfl (decide_eq_true h23) rfl (Sk rfl rfl (decide_eq_true h23) rfl (Sk rfl rfl (decide_eq_true h23) rfl (Sk rfl rfl (decide_eq_true h23) rfl (Sk rfl rfl (decide_eq_true h23) rfl (WL.val (v := .bool true) rfl (Yl.pickT rfl (decide_eq_true h23) rfl) (WL.nil (Fin.then (Wp.cond1 rfl rfl (Wp.seq (Wp.region (As rfl rfl (WL.nil (Fin.then (Wp.ret (Fin.thenR (Fin.res (res1 rfl rfl) ?_))))))))))))))))
  have H24 : Own w D w [] := H.pick [] (by decide) rfl
  have e : owner_Check l0 = 170 := Eq.trans (if_neg h21) (if_pos h23)
  obtain rfl := e.symm.trans hr
  exact ⟨rfl, H24, (by omega)⟩
  refine WL.valG (v := .slice A0 (List.length l0) c0) rfl rfl (decide_eq_false h23) rfl (Yl.move rfl) ?_
  obtain ⟨x25, hx26⟩ := rds_at (ls := l0) (i := 0) OwnerD.len (by decide) (H.ro hx0) (by first | omega | (simp; done) | (simp; omega))
  refine WL.valG (v := .pointer (some ⟨ab A0, ao A0 + 0 * 2, none⟩)) rfl rfl (decide_eq_false h23) rfl (Yl.indexAddr (El22) rfl rfl ((H.ro hx0).addr (i := 0) (by omega)) (by omega)) (WL.valG (v := .pointer (some ⟨ab A0, ao A0 + 0 * 2, none⟩)) rfl rfl (decide_eq_false h23) rfl (Yl.kern rfl rfl (fun _ => by kernel_rfl)) (WL.valG (v := .string ⟨List.toArray x25.xLo⟩) rfl rfl (decide_eq_false h23) rfl (Yl.load rfl (Lds.one Try.isAgg9 (((H.ro hx0).elem OwnerD.len hx26 (by decide)).at_ (k := 0) rfl))) (WL.valG (v := .bool (decide (x25.xLo ≠ ([])))) rfl rfl (decide_eq_false h23) rfl (Yl.strNe rfl rfl) (WL.val (v := .bool (decide (x25.xLo ≠ ([])))) rfl (Yl.pickF rfl (decide_eq_false h23) rfl) (WL.nil (Fin.then ?_))))))
  by_cases h27 : x25.xLo ≠ ([])
  refine Wp.cond1 rfl (decide_eq_true h27) (Wp.seq (Wp.region (As rfl rfl (WL.nil (Fin.then (Wp.ret (Fin.thenR (Fin.res (res1 rfl rfl) ?_))))))))
  have H28 : Own w D w [] := H.pick [] (by decide) rfl
  have e : owner_Check l0 = 170 := Eq.trans (if_neg h21) (Eq.trans (if_neg h23) (Eq.trans (bnd_of (getD_of hx26)) (if_pos h27)))
  obtain rfl := e.symm.trans hr
  exact ⟨rfl, H28, (by omega)⟩
  refine Wp.cond0 rfl (decide_eq_false h27) (Wp.skip (Fin.then (Wp.seq (Wp.seq (Wp.region (Mv rfl rfl (Kn (v := .int .i64 ((List.length l0 : Nat) : Int)) rfl rfl rfl (fun _ => by kernel_rfl) (Mv rfl rfl (WL.nil (Fin.then (Wp.block ?_)))))))))))
  have H31 : Own w D w [] := H.pick [] (by decide) rfl
  refine Wp.loop (ι := Nat) (fun i => [(2, .int .i64 0), (21, .int .i64 ((i : Nat) : Int)), (20, .int .i64 ((List.length l0 : Nat) : Int)), (0, .slice A0 (List.length l0) c0)]) (fun (i : Nat) w' => Own w D w' [] ∧ (i ≤ List.length l0 ∧ owner_Check_L0 l0 l0 0 = owner_Check_L0 l0 (List.drop i l0) i)) (fun i => List.length l0 - i) 0 ⟨rfl, rfl, rfl, rfl, trivial⟩ ⟨H31, (show 0 ≤ List.length l0 ∧ owner_Check_L0 l0 l0 0 = owner_Check_L0 l0 (List.drop 0 l0) 0 from ⟨by omega, rfl⟩)⟩ ?_
  rintro k29 w32 ⟨H33, hf34⟩
  show Wp _ _ _ [(2, .int .i64 0), (21, .int .i64 ((k29 : Nat) : Int)), (20, .int .i64 ((List.length l0 : Nat) : Int)), (0, .slice A0 (List.length l0) c0)] _ _
  replace H33 : Own w D w32 [] := H33
  replace hf34 : k29 ≤ List.length l0 ∧ owner_Check_L0 l0 l0 0 = owner_Check_L0 l0 (List.drop k29 l0) k29 := hf34
  obtain ⟨hi36, hq35⟩ := hf34
  refine Wp.seq (Wp.region (Kn (v := .bool (decide (((k29 : Nat) : Int) < ((List.length l0 : Nat) : Int)))) rfl rfl rfl (fun _ => by kernel_rfl) (WL.nil (Fin.then (Wp.seq ?_)))))
  by_cases h37 : ((k29 : Nat) : Int) < ((List.length l0 : Nat) : Int)
  obtain ⟨x38, hx39⟩ := rds_at (ls := l0) (i := k29) OwnerD.len (by decide) (H33.ro hx0) (by first | omega | (simp; done) | (simp; omega))
  have hd40 := drop_at hx39
  refine Wp.cond1 rfl (decide_eq_true h37) (Wp.skip (Fin.then (Wp.seq (Wp.block (Wp.seq (Wp.region (Mv rfl rfl (As rfl rfl (WL.nil (Fin.then (Wp.seq (Wp.seq (Wp.region (Mv rfl rfl (Mv rfl rfl (WL.val (v := .pointer (some ⟨ab A0, ao A0 + k29 * 2, none⟩)) rfl (Yl.indexAddr (El22) rfl rfl ((H33.ro hx0).addr (i := k29) (by omega)) (by omega)) (Kn (v := .pointer (some ⟨ab A0, ao A0 + k29 * 2 + 1, none⟩)) rfl rfl rfl (fun _ => by kernel_rfl) (WL.val (v := .int .i64 x38.xShard) rfl (Yl.load rfl (Lds.one Try.isAgg3 (((H33.ro hx0).elem OwnerD.len hx39 (by decide)).at_ (k := 1) rfl))) ?_))))))))))))))))))
  obtain ⟨r46, hr47⟩ : ∃ q, owner_isShard x38.xShard = q := ⟨_, rfl⟩
  obtain ⟨D41, HP42, ro43, bk44, rr45⟩ := Own.enter0 H33
  refine WL.do rfl (Do.call Try.call38 rfl (owner_isShard_ok _ _ x38.xShard r46 HP42 hr47) ?_)
  rintro _ w48 ⟨rfl, HQ49⟩
  have H50 : Own w D w48 [] := bk44 _ _ HQ49
  refine Kn (v := .bool (!r46)) rfl rfl rfl (fun _ => by kernel_rfl) (WL.nil (Fin.then ?_))
  rcases Bool.eq_false_or_eq_true (r46) with h51 | h51
  refine Wp.cond0 rfl (congrArg not h51) (Wp.skip (Fin.then (Wp.seq ?_)))
  have H53 := H50.drew
  refine Wp.drawnX [] (fun W => ∃ L', Own w D W ([] ++ L')) (by kernel_rfl) (by kernel_rfl) (NoP.then (NoP.block (NoP.then (NoP.then (NoP.block (NoP.then NoP.base)))))) ⟨_, H53⟩ ?_
  revert H53
  generalize World.drew w48 = w52
  intro H53
  replace H53 : Own w D w52 [] := H53
  refine GX.take (v := .int .i64 ((k29 : Nat) : Int)) (rs := []) 0 rfl (by kernel_rfl) (fun _ _ => Yl.move rfl) (GX.take (v := .bool (decide (((k29 : Nat) : Int) > 0))) (rs := []) 1 rfl (by kernel_rfl) (fun _ _ => Yl.kern rfl rfl (fun _ => by kernel_rfl)) (GX.take (v := .bool (decide (((k29 : Nat) : Int) > 0))) (rs := []) 2 rfl (by kernel_rfl) (fun _ _ => Yl.move rfl) ?_))
  by_cases h54 : ((k29 : Nat) : Int) > 0
  refine GX.takeG (v := .slice A0 (List.length l0) c0) (rs := []) 3 rfl rfl rfl (decide_eq_true h54) (by kernel_rfl) (fun _ _ => Yl.move rfl) (GX.takeG (v := .int .i64 ((k29 : Nat) : Int)) (rs := []) 4 rfl rfl rfl (decide_eq_true h54) (by kernel_rfl) (fun _ _ => Yl.move rfl) (GX.takeG (v := .pointer (some ⟨ab A0, ao A0 + k29 * 2, none⟩)) (rs := []) 5 rfl rfl rfl (decide_eq_true h54) (by kernel_rfl) (fun _ ⟨_, H9⟩ => Yl.indexAddr (El22) rfl rfl ((H9.ro hx0).addr (i := k29) (by omega)) (by omega)) (GX.takeG (v := .pointer (some ⟨ab A0, ao A0 + k29 * 2, none⟩)) (rs := []) 6 rfl rfl rfl (decide_eq_true h54) (by kernel_rfl) (fun _ _ => Yl.kern rfl rfl (fun _ => by kernel_rfl)) (GX.takeG (v := .string ⟨List.toArray x38.xLo⟩) (rs := []) 7 rfl rfl rfl (decide_eq_true h54) (by kernel_rfl) (fun _ ⟨_, H9⟩ => Yl.load rfl (Lds.one Try.isAgg9 (((H9.ro hx0).elem OwnerD.len hx39 (by decide)).at_ (k := 0) rfl))) ?_))))
  obtain ⟨r60, hr61⟩ : ∃ q, span_CheckKey x38.xLo = q := ⟨_, rfl⟩
  obtain ⟨D55, HP56, ro57, bk58, rr59⟩ := Own.enter0 H53
  refine GX.doG 8 rfl rfl rfl (decide_eq_true h54) (by kernel_rfl) (Do.call Try.call31 rfl (span_CheckKey_ok _ _ x38.xLo r60 HP56 hr61) ?_)
  rintro _ w62 ⟨rfl, HQ63, hk65, hk66⟩
  have H64 : Own w D w62 [] := bk58 _ _ HQ63
  replace hk65 : ¬ (r60 = 0) ∨ (1 ≤ List.length x38.xLo ∧ List.length x38.xLo ≤ 12) := hk65
  replace hk66 : List.length x38.xLo < 1 ∨ List.length x38.xLo > 12 ∨ r60 = 0 := hk66
  refine ⟨.inr ⟨_, H64⟩, ?_⟩
  refine GX.takeG (v := .bool (decide (¬ (r60 = 0)))) (rs := []) 9 rfl rfl rfl (decide_eq_true h54) (by kernel_rfl) (fun _ _ => Yl.bool (e := !(decide (r60 = 0))) (Yl.kern rfl rfl (fun _ => by kernel_rfl)) decide_not.symm) (GX.takeG (v := .bool (decide (¬ (r60 = 0)))) (rs := []) 10 rfl rfl rfl (decide_eq_true h54) (by kernel_rfl) (fun _ _ => Yl.move rfl) ?_)
  by_cases h67 : r60 = 0
  refine GX.takeG (v := .slice A0 (List.length l0) c0) (rs := []) 11 rfl rfl rfl (decide_eq_false (not_not_intro h67)) (by kernel_rfl) (fun _ _ => Yl.move rfl) (GX.takeG (v := .int .i64 ((k29 : Nat) : Int)) (rs := []) 12 rfl rfl rfl (decide_eq_false (not_not_intro h67)) (by kernel_rfl) (fun _ _ => Yl.move rfl) (GX.takeG (v := .pointer (some ⟨ab A0, ao A0 + k29 * 2, none⟩)) (rs := []) 13 rfl rfl rfl (decide_eq_false (not_not_intro h67)) (by kernel_rfl) (fun _ ⟨_, H9⟩ => Yl.indexAddr (El22) rfl rfl ((H9.ro hx0).addr (i := k29) (by omega)) (by omega)) (GX.takeG (v := .pointer (some ⟨ab A0, ao A0 + k29 * 2, none⟩)) (rs := []) 14 rfl rfl rfl (decide_eq_false (not_not_intro h67)) (by kernel_rfl) (fun _ _ => Yl.kern rfl rfl (fun _ => by kernel_rfl)) (GX.takeG (v := .string ⟨List.toArray x38.xLo⟩) (rs := []) 15 rfl rfl rfl (decide_eq_false (not_not_intro h67)) (by kernel_rfl) (fun _ ⟨_, H9⟩ => Yl.load rfl (Lds.one Try.isAgg9 (((H9.ro hx0).elem OwnerD.len hx39 (by decide)).at_ (k := 0) rfl))) (GX.takeG (v := .slice A0 (List.length l0) c0) (rs := []) 16 rfl rfl rfl (decide_eq_false (not_not_intro h67)) (by kernel_rfl) (fun _ _ => Yl.move rfl) (GX.takeG (v := .int .i64 ((k29 : Nat) : Int)) (rs := []) 17 rfl rfl rfl (decide_eq_false (not_not_intro h67)) (by kernel_rfl) (fun _ _ => Yl.move rfl) (GX.takeG (v := .int .i64 ((k29 - 1 : Nat) : Int)) (rs := []) 18 rfl rfl rfl (decide_eq_false (not_not_intro h67)) (by kernel_rfl) (fun _ _ => Yl.int (e := IntKind.i64.wrap (((k29 : Nat) : Int) - 1)) (Yl.kern rfl rfl (fun _ => by kernel_rfl)) (by rw [IntWalk.i64_in _ (by omega)]; omega)) ?_)))))))
  obtain ⟨x68, hx69⟩ := at_of (ls := l0) (i := k29 - 1) (by first | omega | (simp; done) | (simp; omega))
  refine GX.takeG (v := .pointer (some ⟨ab A0, ao A0 + (k29 - 1) * 2, none⟩)) (rs := []) 19 rfl rfl rfl (decide_eq_false (not_not_intro h67)) (by kernel_rfl) (fun _ ⟨_, H9⟩ => Yl.indexAddr (El22) rfl rfl ((H9.ro hx0).addr (i := k29 - 1) (by omega)) (by omega)) (GX.takeG (v := .pointer (some ⟨ab A0, ao A0 + (k29 - 1) * 2, none⟩)) (rs := []) 20 rfl rfl rfl (decide_eq_false (not_not_intro h67)) (by kernel_rfl) (fun _ _ => Yl.kern rfl rfl (fun _ => by kernel_rfl)) (GX.takeG (v := .string ⟨List.toArray x68.xLo⟩) (rs := []) 21 rfl rfl rfl (decide_eq_false (not_not_intro h67)) (by kernel_rfl) (fun _ ⟨_, H9⟩ => Yl.load rfl (Lds.one Try.isAgg9 (((H9.ro hx0).elem OwnerD.len hx69 (by decide)).at_ (k := 0) rfl))) (GX.takeG (v := .bool (decide (x38.xLo ≤ x68.xLo))) (rs := []) 22 rfl rfl rfl (decide_eq_false (not_not_intro h67)) (by kernel_rfl) (fun _ _ => Yl.bool (e := Op.bytesLess x38.xLo x68.xLo || decide (x38.xLo = x68.xLo)) (Yl.strLe rfl rfl) (bl_le _ _)) (GX.takeG (v := .bool (decide (x38.xLo ≤ x68.xLo))) (rs := []) 23 rfl rfl rfl (decide_eq_true h54) (by kernel_rfl) (fun _ _ => Yl.pickF rfl (decide_eq_false (not_not_intro h67)) rfl) (GX.take (v := .bool (decide (x38.xLo ≤ x68.xLo))) (rs := []) 24 rfl (by kernel_rfl) (fun _ _ => Yl.pickT rfl (decide_eq_true h54) rfl) (GX.done (by kernel_rfl) (Fin.then ?_)))))))
  by_cases h70 : x38.xLo ≤ x68.xLo
  refine Wp.cond1 rfl (decide_eq_true h70) (Wp.seq (Wp.region (As rfl rfl (WL.nil (Fin.then (Wp.ret (Fin.blockR (Fin.thenR (Fin.thenR (Fin.blockR (Fin.thenR (Fin.res (res1 rfl rfl) ?_))))))))))))
  have H71 : Own w D w62 [] := H64.pick [] (by decide) rfl
  have e : owner_Check l0 = 170 := Eq.trans (if_neg h21) (Eq.trans (if_neg h23) (Eq.trans (bnd_of (getD_of hx26)) (Eq.trans (if_neg h27) (lp_r (Eq.trans (hq35) (Eq.trans (congrArg (fun q => owner_Check_L0 l0 q k29) hd40) (Eq.trans (bnd_of hr47) (Eq.trans (if_pos h51) (Eq.trans (if_pos h54) (Eq.trans (bnd_of hr61) (Eq.trans (if_pos h67) (Eq.trans (bnd_of (getD_of hx69)) (if_pos h70)))))))))))))
  obtain rfl := e.symm.trans hr
  exact ⟨rfl, H71, (by omega)⟩
  refine Wp.cond0 rfl (decide_eq_false h70) (Wp.skip (Fin.blockN (Fin.then (Wp.region (WL.val (v := .int .i64 ((k29 + 1 : Nat) : Int)) rfl (Yl.int (e := IntKind.i64.wrap (((k29 : Nat) : Int) + 1)) (Yl.kern rfl rfl (fun _ => by kernel_rfl)) (by rw [IntWalk.i64_in _ (by omega)]; omega)) (Mv rfl rfl (WL.nil ?_)))))))
  have H72 : Own w D w62 [] := H64.pick [] (by decide) rfl
  exact Fin.round (k29 + 1) ⟨rfl, rfl, rfl, rfl, trivial⟩ ⟨H72, (show (k29 + 1) ≤ List.length l0 ∧ owner_Check_L0 l0 l0 0 = owner_Check_L0 l0 (List.drop (k29 + 1) l0) (k29 + 1) from ⟨by omega, Eq.trans (hq35) (Eq.trans (congrArg (fun q => owner_Check_L0 l0 q k29) hd40) (Eq.trans (bnd_of hr47) (Eq.trans (if_pos h51) (Eq.trans (if_pos h54) (Eq.trans (bnd_of hr61) (Eq.trans (if_pos h67) (Eq.trans (bnd_of (getD_of hx69)) (if_neg h70))))))))⟩)⟩ (by show List.length l0 - (k29 + 1) < List.length l0 - k29; omega)
  refine GX.skipG (rs := []) 11 rfl rfl rfl (decide_eq_true h67) (by kernel_rfl) (GX.skipG (rs := []) 12 rfl rfl rfl (decide_eq_true h67) (by kernel_rfl) (GX.skipG (rs := []) 13 rfl rfl rfl (decide_eq_true h67) (by kernel_rfl) (GX.skipG (rs := []) 14 rfl rfl rfl (decide_eq_true h67) (by kernel_rfl) (GX.skipG (rs := []) 15 rfl rfl rfl (decide_eq_true h67) (by kernel_rfl) (GX.skipG (rs := []) 16 rfl rfl rfl (decide_eq_true h67) (by kernel_rfl) (GX.skipG (rs := []) 17 rfl rfl rfl (decide_eq_true h67) (by kernel_rfl) (GX.skipG (rs := []) 18 rfl rfl rfl (decide_eq_true h67) (by kernel_rfl) (GX.skipG (rs := []) 19 rfl rfl rfl (decide_eq_true h67) (by kernel_rfl) (GX.skipG (rs := []) 20 rfl rfl rfl (decide_eq_true h67) (by kernel_rfl) (GX.skipG (rs := []) 21 rfl rfl rfl (decide_eq_true h67) (by kernel_rfl) (GX.skipG (rs := []) 22 rfl rfl rfl (decide_eq_true h67) (by kernel_rfl) (GX.takeG (v := .bool true) (rs := []) 23 rfl rfl rfl (decide_eq_true h54) (by kernel_rfl) (fun _ _ => Yl.pickT rfl (decide_eq_true h67) rfl) (GX.take (v := .bool true) (rs := []) 24 rfl (by kernel_rfl) (fun _ _ => Yl.pickT rfl (decide_eq_true h54) rfl) (GX.done (by kernel_rfl) (Fin.then (Wp.cond1 rfl rfl (Wp.seq (Wp.region (As rfl rfl (WL.nil (Fin.then (Wp.ret (Fin.blockR (Fin.thenR (Fin.thenR (Fin.blockR (Fin.thenR (Fin.res (res1 rfl rfl) ?_))))))))))))))))))))))))))))
  have H73 : Own w D w62 [] := H64.pick [] (by decide) rfl
  have e : owner_Check l0 = 170 := Eq.trans (if_neg h21) (Eq.trans (if_neg h23) (Eq.trans (bnd_of (getD_of hx26)) (Eq.trans (if_neg h27) (lp_r (Eq.trans (hq35) (Eq.trans (congrArg (fun q => owner_Check_L0 l0 q k29) hd40) (Eq.trans (bnd_of hr47) (Eq.trans (if_pos h51) (Eq.trans (if_pos h54) (Eq.trans (bnd_of hr61) (if_neg h67)))))))))))
  obtain rfl := e.symm.trans hr
  exact ⟨rfl, H73, (by omega)⟩
  refine GX.skipG (rs := []) 3 rfl rfl rfl (decide_eq_false h54) (by kernel_rfl) (GX.skipG (rs := []) 4 rfl rfl rfl (decide_eq_false h54) (by kernel_rfl) (GX.skipG (rs := []) 5 rfl rfl rfl (decide_eq_false h54) (by kernel_rfl) (GX.skipG (rs := []) 6 rfl rfl rfl (decide_eq_false h54) (by kernel_rfl) (GX.skipG (rs := []) 7 rfl rfl rfl (decide_eq_false h54) (by kernel_rfl) (GX.skipG (rs := []) 8 rfl rfl rfl (decide_eq_false h54) (by kernel_rfl) (GX.skipG (rs := []) 9 rfl rfl rfl (decide_eq_false h54) (by kernel_rfl) (GX.skipG (rs := []) 10 rfl rfl rfl (decide_eq_false h54) (by kernel_rfl) (GX.skipUG (rs := []) 11 rfl rfl rfl (by kernel_rfl) (GX.skipUG (rs := []) 12 rfl rfl rfl (by kernel_rfl) (GX.skipUG (rs := []) 13 rfl rfl rfl (by kernel_rfl) (GX.skipUG (rs := []) 14 rfl rfl rfl (by kernel_rfl) (GX.skipUG (rs := []) 15 rfl rfl rfl (by kernel_rfl) (GX.skipUG (rs := []) 16 rfl rfl rfl (by kernel_rfl) (GX.skipUG (rs := []) 17 rfl rfl rfl (by kernel_rfl) (GX.skipUG (rs := []) 18 rfl rfl rfl (by kernel_rfl) (GX.skipUG (rs := []) 19 rfl rfl rfl (by kernel_rfl) (GX.skipUG (rs := []) 20 rfl rfl rfl (by kernel_rfl) (GX.skipUG (rs := []) 21 rfl rfl rfl (by kernel_rfl) (GX.skipUG (rs := []) 22 rfl rfl rfl (by kernel_rfl) (GX.skipG (rs := []) 23 rfl rfl rfl (decide_eq_false h54) (by kernel_rfl) (GX.take (v := .bool false) (rs := []) 24 rfl (by kernel_rfl) (fun _ _ => Yl.pickF rfl (decide_eq_false h54) rfl) (GX.done (by kernel_rfl) (Fin.then (Wp.cond0 rfl rfl (Wp.skip (Fin.blockN (Fin.then (Wp.region (WL.val (v := .int .i64 ((k29 + 1 : Nat) : Int)) rfl (Yl.int (e := IntKind.i64.wrap (((k29 : Nat) : Int) + 1)) (Yl.kern rfl rfl (fun _ => by kernel_rfl)) (by rw [IntWalk.i64_in _ (by omega)]; omega)) (Mv rfl rfl (WL.nil ?_)))))))))))))))))))))))))))))))
  have H74 : Own w D w52 [] := H53.pick [] (by decide) rfl
  exact Fin.round (k29 + 1) ⟨rfl, rfl, rfl, rfl, trivial⟩ ⟨H74, (show (k29 + 1) ≤ List.length l0 ∧ owner_Check_L0 l0 l0 0 = owner_Check_L0 l0 (List.drop (k29 + 1) l0) (k29 + 1) from ⟨by omega, Eq.trans (hq35) (Eq.trans (congrArg (fun q => owner_Check_L0 l0 q k29) hd40) (Eq.trans (bnd_of hr47) (Eq.trans (if_pos h51) (if_neg h54))))⟩)⟩ (by show List.length l0 - (k29 + 1) < List.length l0 - k29; omega)
  refine Wp.cond1 rfl (congrArg not h51) (Wp.seq (Wp.region (As rfl rfl (WL.nil (Fin.then (Wp.ret (Fin.thenR (Fin.blockR (Fin.thenR (Fin.thenR (Fin.blockR (Fin.thenR (Fin.res (res1 rfl rfl) ?_)))))))))))))
  have H75 : Own w D w48 [] := H50.pick [] (by decide) rfl
  have e : owner_Check l0 = 170 := Eq.trans (if_neg h21) (Eq.trans (if_neg h23) (Eq.trans (bnd_of (getD_of hx26)) (Eq.trans (if_neg h27) (lp_r (Eq.trans (hq35) (Eq.trans (congrArg (fun q => owner_Check_L0 l0 q k29) hd40) (Eq.trans (bnd_of hr47) (ifF h51))))))))
  obtain rfl := e.symm.trans hr
  exact ⟨rfl, H75, (by omega)⟩
  refine Wp.cond0 rfl (decide_eq_false h37) (Wp.exit (Fin.thenX ?_))
  have hL76 : owner_Check_L0 l0 l0 0 = Sum.inl () := Eq.trans (hq35) (Eq.trans (congrArg (fun q => owner_Check_L0 l0 q k29) (drop_end (ls := l0) (i := k29) (by omega))) rfl)
  refine Fin.thenX (Fin.blockX (Fin.then (Wp.seq (Wp.region (As rfl rfl (WL.nil (Fin.then (Wp.ret (Fin.res (res1 rfl rfl) ?_)))))))))
  have H77 : Own w D w32 [] := H33.pick [] (by decide) rfl
  have e : owner_Check l0 = 0 := Eq.trans (if_neg h21) (Eq.trans (if_neg h23) (Eq.trans (bnd_of (getD_of hx26)) (Eq.trans (if_neg h27) (lp_l hL76))))
  obtain rfl := e.symm.trans hr
  exact ⟨rfl, H77, (by omega)⟩

def owner_place_L0 (p1 : List UInt8) : List OwnerD → Nat → Nat → Nat
  | [], k21, k22 => k21
  | x36 :: q23, k21, k22 => if x36.xLo ≤ p1 then owner_place_L0 p1 q23 k22 (k22 + 1) else owner_place_L0 p1 q23 k21 (k22 + 1)

def owner_place (l0 : List OwnerD) (p1 : List UInt8) : Int :=
  bnd (owner_place_L0 p1 l0 0 0) fun sLrL => ((sLrL : Nat) : Int)

set_option maxRecDepth 100000 in
theorem owner_place_ok (w : World) (D : Nat → Prop) (A0 : Option Addr) (n0 c0 : Nat) (l0 : List OwnerD) (p1 : List UInt8) (r0 : Int) (H : Own w D w []) (hx0 : Ro w D fun w' => Rds w' 2 A0 n0 (List.flatMap OwnerD.cells l0)) (hn0 : n0 = List.length l0) (hl0 : List.length l0 * 24 ≤ 211106232532992) (hh0 : 1 ≤ List.length l0) (hr : owner_place l0 p1 = r0) :
    Calls Try.prog 33 #[.slice A0 n0 c0, .string ⟨List.toArray p1⟩] w (Ret fun v w' => v = .int .i64 r0 ∧ Own w D w' [] ∧ (0 ≤ r0 ∧ r0 < ((List.length l0 : Nat) : Int))) := by
  subst hn0
  refine Calls.body (args := [.slice A0 (List.length l0) c0, .string ⟨List.toArray p1⟩]) Try.func33 rfl rfl rfl ?_
  show Wp _ _ _ [(0, .slice A0 (List.length l0) c0), (1, .string ⟨List.toArray p1⟩)] _ _
  refine Wp.seq (Wp.region (As rfl rfl (WL.nil (Fin.then (Wp.seq (Wp.region (As rfl rfl (WL.nil (Fin.then (Wp.seq (Wp.seq (Wp.region (Mv rfl rfl (Kn (v := .int .i64 ((List.length l0 : Nat) : Int)) rfl rfl rfl (fun _ => by kernel_rfl) (Mv rfl rfl (WL.nil (Fin.then (Wp.block ?_))))))))))))))))))
  have H24 : Own w D w [] := H.pick [] (by decide) rfl
  refine Wp.loop (ι := Nat × Nat) (fun i => [(5, .int .i64 ((i.1 : Nat) : Int)), (9, .int .i64 ((i.2 : Nat) : Int)), (8, .int .i64 ((List.length l0 : Nat) : Int)), (4, .int .i64 0), (0, .slice A0 (List.length l0) c0), (1, .string ⟨List.toArray p1⟩)]) (fun (i : Nat × Nat) w' => Own w D w' [] ∧ (i.2 ≤ List.length l0 ∧ i.1 ≤ i.2 ∧ i.1 ≤ i.2 ∧ i.1 ≤ List.length l0 ∧ 0 ≤ i.1 ∧ i.1 < List.length l0 ∧ owner_place_L0 p1 l0 0 0 = owner_place_L0 p1 (List.drop i.2 l0) i.1 i.2)) (fun i => List.length l0 - i.2) (0, 0) ⟨rfl, rfl, rfl, rfl, rfl, rfl, trivial⟩ ⟨H24, (show 0 ≤ List.length l0 ∧ 0 ≤ 0 ∧ 0 ≤ 0 ∧ 0 ≤ List.length l0 ∧ 0 ≤ 0 ∧ 0 < List.length l0 ∧ owner_place_L0 p1 l0 0 0 = owner_place_L0 p1 (List.drop 0 l0) 0 0 from ⟨by omega, by omega, by omega, by omega, by omega, by omega, rfl⟩)⟩ ?_
  rintro ⟨k21, k22⟩ w25 ⟨H26, hf27⟩
  show Wp _ _ _ [(5, .int .i64 ((k21 : Nat) : Int)), (9, .int .i64 ((k22 : Nat) : Int)), (8, .int .i64 ((List.length l0 : Nat) : Int)), (4, .int .i64 0), (0, .slice A0 (List.length l0) c0), (1, .string ⟨List.toArray p1⟩)] _ _
  replace H26 : Own w D w25 [] := H26
  replace hf27 : k22 ≤ List.length l0 ∧ k21 ≤ k22 ∧ k21 ≤ k22 ∧ k21 ≤ List.length l0 ∧ 0 ≤ k21 ∧ k21 < List.length l0 ∧ owner_place_L0 p1 l0 0 0 = owner_place_L0 p1 (List.drop k22 l0) k21 k22 := hf27
  obtain ⟨hi29, hi30, hi31, hi32, hi33, hi34, hq28⟩ := hf27
  refine Wp.seq (Wp.region (Kn (v := .bool (decide (((k22 : Nat) : Int) < ((List.length l0 : Nat) : Int)))) rfl rfl rfl (fun _ => by kernel_rfl) (WL.nil (Fin.then (Wp.seq ?_)))))
  by_cases h35 : ((k22 : Nat) : Int) < ((List.length l0 : Nat) : Int)
  obtain ⟨x36, hx37⟩ := rds_at (ls := l0) (i := k22) OwnerD.len (by decide) (H26.ro hx0) (by first | omega | (simp; done) | (simp; omega))
  have hd38 := drop_at hx37
  refine Wp.cond1 rfl (decide_eq_true h35) (Wp.skip (Fin.then (Wp.seq (Wp.block (Wp.seq (Wp.region (Mv rfl rfl (As rfl rfl (WL.nil (Fin.then (Wp.seq (Wp.region (Mv rfl rfl (Mv rfl rfl (WL.val (v := .pointer (some ⟨ab A0, ao A0 + k22 * 2, none⟩)) rfl (Yl.indexAddr (El22) rfl rfl ((H26.ro hx0).addr (i := k22) (by omega)) (by omega)) (Kn (v := .pointer (some ⟨ab A0, ao A0 + k22 * 2, none⟩)) rfl rfl rfl (fun _ => by kernel_rfl) (WL.val (v := .string ⟨List.toArray x36.xLo⟩) rfl (Yl.load rfl (Lds.one Try.isAgg9 (((H26.ro hx0).elem OwnerD.len hx37 (by decide)).at_ (k := 0) rfl))) (Mv rfl rfl (WL.val (v := .bool (decide (x36.xLo ≤ p1))) rfl (Yl.bool (e := Op.bytesLess x36.xLo p1 || decide (x36.xLo = p1)) (Yl.strLe rfl rfl) (bl_le _ _)) (WL.nil (Fin.then ?_)))))))))))))))))))))
  by_cases h39 : x36.xLo ≤ p1
  refine Wp.cond1 rfl (decide_eq_true h39) (Wp.region (Mv rfl rfl (As rfl rfl (WL.nil (Fin.blockN (Fin.then (Wp.region (WL.val (v := .int .i64 ((k22 + 1 : Nat) : Int)) rfl (Yl.int (e := IntKind.i64.wrap (((k22 : Nat) : Int) + 1)) (Yl.kern rfl rfl (fun _ => by kernel_rfl)) (by rw [IntWalk.i64_in _ (by omega)]; omega)) (Mv rfl rfl (WL.nil ?_))))))))))
  have H40 : Own w D w25 [] := H26.pick [] (by decide) rfl
  exact Fin.round (k22, k22 + 1) ⟨rfl, rfl, rfl, rfl, rfl, rfl, trivial⟩ ⟨H40, (show (k22 + 1) ≤ List.length l0 ∧ k22 ≤ (k22 + 1) ∧ k22 ≤ (k22 + 1) ∧ k22 ≤ List.length l0 ∧ 0 ≤ k22 ∧ k22 < List.length l0 ∧ owner_place_L0 p1 l0 0 0 = owner_place_L0 p1 (List.drop (k22 + 1) l0) k22 (k22 + 1) from ⟨by omega, by omega, by omega, by omega, by omega, by omega, Eq.trans (hq28) (Eq.trans (congrArg (fun q => owner_place_L0 p1 q k21 k22) hd38) (if_pos h39))⟩)⟩ (by show List.length l0 - (k22 + 1) < List.length l0 - k22; omega)
  refine Wp.cond0 rfl (decide_eq_false h39) (Wp.skip (Fin.blockN (Fin.then (Wp.region (WL.val (v := .int .i64 ((k22 + 1 : Nat) : Int)) rfl (Yl.int (e := IntKind.i64.wrap (((k22 : Nat) : Int) + 1)) (Yl.kern rfl rfl (fun _ => by kernel_rfl)) (by rw [IntWalk.i64_in _ (by omega)]; omega)) (Mv rfl rfl (WL.nil ?_)))))))
  have H41 : Own w D w25 [] := H26.pick [] (by decide) rfl
  exact Fin.round (k21, k22 + 1) ⟨rfl, rfl, rfl, rfl, rfl, rfl, trivial⟩ ⟨H41, (show (k22 + 1) ≤ List.length l0 ∧ k21 ≤ (k22 + 1) ∧ k21 ≤ (k22 + 1) ∧ k21 ≤ List.length l0 ∧ 0 ≤ k21 ∧ k21 < List.length l0 ∧ owner_place_L0 p1 l0 0 0 = owner_place_L0 p1 (List.drop (k22 + 1) l0) k21 (k22 + 1) from ⟨by omega, by omega, by omega, by omega, by omega, by omega, Eq.trans (hq28) (Eq.trans (congrArg (fun q => owner_place_L0 p1 q k21 k22) hd38) (if_neg h39))⟩)⟩ (by show List.length l0 - (k22 + 1) < List.length l0 - k22; omega)
  refine Wp.cond0 rfl (decide_eq_false h35) (Wp.exit (Fin.thenX ?_))
  have hL42 : owner_place_L0 p1 l0 0 0 = k21 := Eq.trans (hq28) (Eq.trans (congrArg (fun q => owner_place_L0 p1 q k21 k22) (drop_end (ls := l0) (i := k22) (by omega))) rfl)
  refine Fin.thenX (Fin.blockX (Fin.then (Wp.seq (Wp.region (Mv rfl rfl (As rfl rfl (WL.nil (Fin.then (Wp.ret (Fin.res (res1 rfl rfl) ?_))))))))))
  have H43 : Own w D w25 [] := H26.pick [] (by decide) rfl
  have e : owner_place l0 p1 = ((k21 : Nat) : Int) := bnd_of hL42
  obtain rfl := e.symm.trans hr
  exact ⟨rfl, H43, (by omega)⟩

structure RangeD where
  xLo : List UInt8
  xHi : List UInt8

def RangeD.cells (x : RangeD) : List Value := [.string ⟨List.toArray x.xLo⟩, .string ⟨List.toArray x.xHi⟩]

theorem RangeD.len : ∀ x, (RangeD.cells x).length = 2 := fun _ => rfl

theorem RangeD.one : ∀ x, ∀ u ∈ RangeD.cells x, u.oneCell' = true := fun x u hu => by
  simp only [RangeD.cells, List.mem_cons, List.not_mem_nil, or_false] at hu
  rcases hu with rfl | rfl <;> rfl

def RangeD.Ok (w : World) (x : RangeD) : Prop := (List.length x.xLo ≤ 140737488351232) ∧ (List.length x.xHi ≤ 140737488351232)

set_option maxRecDepth 100000 in
theorem opens_RangeD (w : World) : Opens Try.prog w 24 2 RangeD.cells (RangeD.Ok w) :=
  (opens_struct (sz := 2) Try.underlying24 (by kernel_rfl) (OpensF.cons (i := 0) (off := 0) (s := 1) rfl rfl (opens_string Try.underlying9 (by kernel_rfl)) (OpensF.cons (i := 1) (off := 1) (s := 1) rfl rfl (opens_string Try.underlying9 (by kernel_rfl)) OpensF.nil))).map (fun p => ⟨p.1, p.2.1⟩) RangeD.len (fun _ => rfl) fun _ h => ⟨h.1, h.2.1⟩

instance : Inhabited RangeD := ⟨⟨default, default⟩⟩

def owner_rangeOf (l0 : List OwnerD) (p1 : Int) : RangeD :=
  bnd (List.getD l0 (Int.toNat p1) default) fun yx24 => if p1 + 1 < ((List.length l0 : Nat) : Int) then bnd (List.getD l0 (Int.toNat (p1 + 1)) default) fun yx32 => RangeD.mk yx24.xLo yx32.xLo else RangeD.mk yx24.xLo ([])

set_option maxRecDepth 100000 in
theorem owner_rangeOf_ok (w : World) (D : Nat → Prop) (A0 : Option Addr) (n0 c0 : Nat) (l0 : List OwnerD) (p1 : Int) (r0 : RangeD) (H : Own w D w []) (hx0 : Ro w D fun w' => Rds w' 2 A0 n0 (List.flatMap OwnerD.cells l0)) (hn0 : n0 = List.length l0) (hl0 : List.length l0 * 24 ≤ 211106232532992) (hh0 : 0 ≤ p1 ∧ p1 < ((List.length l0 : Nat) : Int)) (hr : owner_rangeOf l0 p1 = r0) :
    Calls Try.prog 36 #[.slice A0 n0 c0, .int .i64 p1] w (Ret fun v w' => v = .agg (RangeD.cells r0).toArray ∧ Own w D w' []) := by
  subst hn0
  refine Calls.body (args := [.slice A0 (List.length l0) c0, .int .i64 p1]) Try.func36 rfl rfl rfl ?_
  show Wp _ _ _ [(0, .slice A0 (List.length l0) c0), (1, .int .i64 p1)] _ _
  refine Wp.seq (Wp.region ?_)
  refine WL.do rfl (Do.newP (cs := [.string ⟨List.toArray ([])⟩, .string ⟨List.toArray ([])⟩]) (t := 24) H rfl rfl (fun _ => by kernel_rfl) ?_)
  intro g21 w22 H23
  replace H23 : Own w D w22 [blk g21 [.string ⟨List.toArray ([])⟩, .string ⟨List.toArray ([])⟩] 24] := H23
  refine WL.nil (Fin.then (Wp.seq (Wp.region (Mv rfl rfl (WL.val (v := .int .i64 ((Int.toNat p1 : Nat) : Int)) rfl (Yl.int (e := p1) (Yl.move rfl) (by omega)) ?_)))))
  obtain ⟨x24, hx25⟩ := rds_at (ls := l0) (i := Int.toNat p1) OwnerD.len (by decide) (H23.ro hx0) (by first | omega | (simp; done) | (simp; omega))
  refine WL.val (v := .pointer (some ⟨ab A0, ao A0 + (Int.toNat p1) * 2, none⟩)) rfl (Yl.indexAddr (El22) rfl rfl ((H23.ro hx0).addr (i := Int.toNat p1) (by omega)) (by omega)) (Kn (v := .pointer (some ⟨ab A0, ao A0 + (Int.toNat p1) * 2, none⟩)) rfl rfl rfl (fun _ => by kernel_rfl) (WL.val (v := .string ⟨List.toArray x24.xLo⟩) rfl (Yl.load rfl (Lds.one Try.isAgg9 (((H23.ro hx0).elem OwnerD.len hx25 (by decide)).at_ (k := 0) rfl))) (Kn (v := .agg #[.string ⟨List.toArray x24.xLo⟩, .string ⟨List.toArray ([])⟩]) rfl rfl rfl (fun _ => by kernel_rfl) ?_)))
  refine WL.do rfl (Do.newP (cs := [.string ⟨List.toArray ([])⟩, .string ⟨List.toArray ([])⟩]) (t := 24) H23 rfl rfl (fun _ => by kernel_rfl) ?_)
  intro g26 w27 H28
  replace H28 : Own w D w27 [blk g26 [.string ⟨List.toArray ([])⟩, .string ⟨List.toArray ([])⟩] 24, blk g21 [.string ⟨List.toArray ([])⟩, .string ⟨List.toArray ([])⟩] 24] := H28
  refine WL.do0 (Do.store (vs := [.string ⟨List.toArray x24.xLo⟩, .string ⟨List.toArray ([])⟩]) (o := 0) H28 rfl rfl Try.sizeOf24 rfl rfl rfl rfl ?_)
  intro w29 H30
  replace H30 : Own w D w29 [blk g26 [.string ⟨List.toArray x24.xLo⟩, .string ⟨List.toArray ([])⟩] 24, blk g21 [.string ⟨List.toArray ([])⟩, .string ⟨List.toArray ([])⟩] 24] := H30
  refine WL.nil (Fin.then (Wp.seq (Wp.seq (Wp.region (Mv rfl rfl (WL.val (v := .int .i64 (p1 + 1)) rfl (Yl.int (e := IntKind.i64.wrap (p1 + 1)) (Yl.kern rfl rfl (fun _ => by kernel_rfl)) (by rw [IntWalk.i64_in _ (by omega)])) (Mv rfl rfl (Kn (v := .int .i64 ((List.length l0 : Nat) : Int)) rfl rfl rfl (fun _ => by kernel_rfl) (Kn (v := .bool (decide (p1 + 1 < ((List.length l0 : Nat) : Int)))) rfl rfl rfl (fun _ => by kernel_rfl) (WL.nil (Fin.then ?_)))))))))))
  by_cases h31 : p1 + 1 < ((List.length l0 : Nat) : Int)
  refine Wp.cond1 rfl (decide_eq_true h31) (Wp.region (Mv rfl rfl (Mv rfl rfl (WL.val (v := .int .i64 ((Int.toNat (p1 + 1) : Nat) : Int)) rfl (Yl.int (e := IntKind.i64.wrap (p1 + 1)) (Yl.kern rfl rfl (fun _ => by kernel_rfl)) (by rw [IntWalk.i64_in _ (by omega)]; omega)) ?_))))
  obtain ⟨x32, hx33⟩ := rds_at (ls := l0) (i := Int.toNat (p1 + 1)) OwnerD.len (by decide) (H30.ro hx0) (by first | omega | (simp; done) | (simp; omega))
  refine WL.val (v := .pointer (some ⟨ab A0, ao A0 + (Int.toNat (p1 + 1)) * 2, none⟩)) rfl (Yl.indexAddr (El22) rfl rfl ((H30.ro hx0).addr (i := Int.toNat (p1 + 1)) (by omega)) (by omega)) (Kn (v := .pointer (some ⟨ab A0, ao A0 + (Int.toNat (p1 + 1)) * 2, none⟩)) rfl rfl rfl (fun _ => by kernel_rfl) (WL.val (v := .string ⟨List.toArray x32.xLo⟩) rfl (Yl.load rfl (Lds.one Try.isAgg9 (((H30.ro hx0).elem OwnerD.len hx33 (by decide)).at_ (k := 0) rfl))) (Kn (v := .pointer (some ⟨g26, 1, none⟩)) rfl rfl rfl (fun _ => by kernel_rfl) ?_)))
  refine WL.do0 (Do.store (vs := [.string ⟨List.toArray x32.xLo⟩]) (o := 1) H30 rfl rfl Try.sizeOf9 rfl rfl rfl rfl ?_)
  intro w34 H35
  replace H35 : Own w D w34 [blk g26 [.string ⟨List.toArray x24.xLo⟩, .string ⟨List.toArray x32.xLo⟩] 24, blk g21 [.string ⟨List.toArray ([])⟩, .string ⟨List.toArray ([])⟩] 24] := H35
  refine WL.nil (Fin.then (Wp.seq (Wp.region (WL.val (v := .agg #[.string ⟨List.toArray x24.xLo⟩, .string ⟨List.toArray x32.xLo⟩]) rfl (Yl.load rfl (Lds.agg (cs := [.string ⟨List.toArray x24.xLo⟩, .string ⟨List.toArray x32.xLo⟩]) Try.isAgg24 Try.sizeOf24 ((H35.cls (i := 0) rfl).lit (k := 0) (m := 2) rfl))) ?_))))
  have H36 : Own w D w34 [blk g21 [.string ⟨List.toArray ([])⟩, .string ⟨List.toArray ([])⟩] 24, blk g26 [.string ⟨List.toArray x24.xLo⟩, .string ⟨List.toArray x32.xLo⟩] 24] := H35.pick [1, 0] (by decide) rfl
  refine WL.do0 (Do.store (vs := [.string ⟨List.toArray x24.xLo⟩, .string ⟨List.toArray x32.xLo⟩]) (o := 0) H36 rfl rfl Try.sizeOf24 rfl rfl rfl rfl ?_)
  intro w37 H38
  replace H38 : Own w D w37 [blk g21 [.string ⟨List.toArray x24.xLo⟩, .string ⟨List.toArray x32.xLo⟩] 24, blk g26 [.string ⟨List.toArray x24.xLo⟩, .string ⟨List.toArray x32.xLo⟩] 24] := H38
  refine WL.nil (Fin.then (Wp.ret (Fin.res (resC rfl rfl (Lds.agg (cs := [.string ⟨List.toArray x24.xLo⟩, .string ⟨List.toArray x32.xLo⟩]) Try.isAgg24 Try.sizeOf24 ((H38.cls (i := 0) rfl).lit (k := 0) (m := 2) rfl))) ?_)))
  have H39 : Own w D w37 [] := H38.pick [] (by decide) rfl
  have e : owner_rangeOf l0 p1 = RangeD.mk x24.xLo x32.xLo := Eq.trans (bnd_of (getD_of hx25)) (Eq.trans (if_pos h31) (bnd_of (getD_of hx33)))
  obtain rfl := e.symm.trans hr
  exact ⟨rfl, H39⟩
  refine Wp.cond0 rfl (decide_eq_false h31) (Wp.skip (Fin.then (Wp.seq (Wp.region (WL.val (v := .agg #[.string ⟨List.toArray x24.xLo⟩, .string ⟨List.toArray ([])⟩]) rfl (Yl.load rfl (Lds.agg (cs := [.string ⟨List.toArray x24.xLo⟩, .string ⟨List.toArray ([])⟩]) Try.isAgg24 Try.sizeOf24 ((H30.cls (i := 0) rfl).lit (k := 0) (m := 2) rfl))) ?_)))))
  have H40 : Own w D w29 [blk g21 [.string ⟨List.toArray ([])⟩, .string ⟨List.toArray ([])⟩] 24, blk g26 [.string ⟨List.toArray x24.xLo⟩, .string ⟨List.toArray ([])⟩] 24] := H30.pick [1, 0] (by decide) rfl
  refine WL.do0 (Do.store (vs := [.string ⟨List.toArray x24.xLo⟩, .string ⟨List.toArray ([])⟩]) (o := 0) H40 rfl rfl Try.sizeOf24 rfl rfl rfl rfl ?_)
  intro w41 H42
  replace H42 : Own w D w41 [blk g21 [.string ⟨List.toArray x24.xLo⟩, .string ⟨List.toArray ([])⟩] 24, blk g26 [.string ⟨List.toArray x24.xLo⟩, .string ⟨List.toArray ([])⟩] 24] := H42
  refine WL.nil (Fin.then (Wp.ret (Fin.res (resC rfl rfl (Lds.agg (cs := [.string ⟨List.toArray x24.xLo⟩, .string ⟨List.toArray ([])⟩]) Try.isAgg24 Try.sizeOf24 ((H42.cls (i := 0) rfl).lit (k := 0) (m := 2) rfl))) ?_)))
  have H43 : Own w D w41 [] := H42.pick [] (by decide) rfl
  have e : owner_rangeOf l0 p1 = RangeD.mk x24.xLo ([]) := Eq.trans (bnd_of (getD_of hx25)) (if_neg h31)
  obtain rfl := e.symm.trans hr
  exact ⟨rfl, H43⟩

def owner_Find (l0 : List OwnerD) (p1 : List UInt8) : Int × Int :=
  bnd (owner_Check l0) fun yr26 => if yr26 = 0 then bnd (span_CheckKey p1) fun yr38 => if yr38 = 0 then bnd (owner_place l0 p1) fun yr51 => (yr51, 0) else (0, yr38) else (0, yr26)

set_option maxRecDepth 100000 in
theorem owner_Find_ok (w : World) (D : Nat → Prop) (A0 : Option Addr) (n0 c0 : Nat) (l0 : List OwnerD) (p1 : List UInt8) (r0 : Int) (r1 : Int) (H : Own w D w []) (hx0 : Ro w D fun w' => Rds w' 2 A0 n0 (List.flatMap OwnerD.cells l0)) (hn0 : n0 = List.length l0) (hl0 : List.length l0 * 24 ≤ 211106232532992) (hr : owner_Find l0 p1 = (r0, r1)) :
    Calls Try.prog 10 #[.slice A0 n0 c0, .string ⟨List.toArray p1⟩] w (Ret fun v w' => v = .tuple #[.int .i64 r0, .int .i64 r1] ∧ Own w D w' [] ∧ (¬ (r1 = 0) ∨ (0 ≤ r0 ∧ r0 < ((List.length l0 : Nat) : Int) ∧ List.length l0 ≤ 6)) ∧ (¬ (owner_Check l0 = 0) ∨ List.length p1 < 1 ∨ List.length p1 > 12 ∨ (0 ≤ r0 ∧ r0 < ((List.length l0 : Nat) : Int))) ∧ (¬ (r1 = 0) ∨ owner_Check l0 = 0)) := by
  subst hn0
  refine Calls.body (args := [.slice A0 (List.length l0) c0, .string ⟨List.toArray p1⟩]) Try.func10 rfl rfl rfl ?_
  show Wp _ _ _ [(0, .slice A0 (List.length l0) c0), (1, .string ⟨List.toArray p1⟩)] _ _
  refine Wp.seq (Wp.region (As rfl rfl (As rfl rfl (WL.nil (Fin.then (Wp.seq (Wp.seq (Wp.region (Mv rfl rfl ?_)))))))))
  obtain ⟨r26, hr27⟩ : ∃ q, owner_Check l0 = q := ⟨_, rfl⟩
  obtain ⟨D21, HP22, ro23, bk24, rr25⟩ := Own.enter0 H
  refine WL.do rfl (Do.call Try.call14 rfl (owner_Check_ok _ _ A0 (List.length l0) c0 l0 r26 HP22 (ro23 _ hx0) rfl (by omega) hr27) ?_)
  rintro _ w28 ⟨rfl, HQ29, hk31⟩
  have H30 : Own w D w28 [] := bk24 _ _ HQ29
  replace hk31 : ¬ (r26 = 0) ∨ (1 ≤ List.length l0 ∧ List.length l0 ≤ 6) := hk31
  refine As rfl rfl (WL.nil (Fin.then (Wp.seq (Wp.region (Mv rfl rfl (WL.val (v := .bool (decide (¬ (r26 = 0)))) rfl (Yl.bool (e := !(decide (r26 = 0))) (Yl.kern rfl rfl (fun _ => by kernel_rfl)) decide_not.symm) (WL.nil (Fin.then ?_))))))))
  by_cases h32 : r26 = 0
  refine Wp.cond0 rfl (decide_eq_false (not_not_intro h32)) (Wp.skip (Fin.then (Wp.seq (Wp.seq (Wp.region (Mv rfl rfl ?_))))))
  obtain ⟨r38, hr39⟩ : ∃ q, span_CheckKey p1 = q := ⟨_, rfl⟩
  obtain ⟨D33, HP34, ro35, bk36, rr37⟩ := Own.enter0 H30
  refine WL.do rfl (Do.call Try.call31 rfl (span_CheckKey_ok _ _ p1 r38 HP34 hr39) ?_)
  rintro _ w40 ⟨rfl, HQ41, hk43, hk44⟩
  have H42 : Own w D w40 [] := bk36 _ _ HQ41
  replace hk43 : ¬ (r38 = 0) ∨ (1 ≤ List.length p1 ∧ List.length p1 ≤ 12) := hk43
  replace hk44 : List.length p1 < 1 ∨ List.length p1 > 12 ∨ r38 = 0 := hk44
  refine As rfl rfl (WL.nil (Fin.then (Wp.seq (Wp.region (Mv rfl rfl (WL.val (v := .bool (decide (¬ (r38 = 0)))) rfl (Yl.bool (e := !(decide (r38 = 0))) (Yl.kern rfl rfl (fun _ => by kernel_rfl)) decide_not.symm) (WL.nil (Fin.then ?_))))))))
  by_cases h45 : r38 = 0
  refine Wp.cond0 rfl (decide_eq_false (not_not_intro h45)) (Wp.skip (Fin.then (Wp.seq (Wp.region (Mv rfl rfl (Mv rfl rfl ?_))))))
  obtain ⟨r51, hr52⟩ : ∃ q, owner_place l0 p1 = q := ⟨_, rfl⟩
  obtain ⟨D46, HP47, ro48, bk49, rr50⟩ := Own.enter0 H42
  refine WL.do rfl (Do.call Try.call33 rfl (owner_place_ok _ _ A0 (List.length l0) c0 l0 p1 r51 HP47 (ro48 _ hx0) rfl (by omega) (by first | omega | (simp only [List.length_cons, List.length_nil]; omega)) hr52) ?_)
  rintro _ w53 ⟨rfl, HQ54, hk56⟩
  have H55 : Own w D w53 [] := bk49 _ _ HQ54
  replace hk56 : 0 ≤ r51 ∧ r51 < ((List.length l0 : Nat) : Int) := hk56
  refine As rfl rfl (As rfl rfl (WL.nil (Fin.then (Wp.ret (Fin.res (res2 rfl rfl rfl) ?_)))))
  have H57 : Own w D w53 [] := H55.pick [] (by decide) rfl
  have e : owner_Find l0 p1 = (r51, 0) := Eq.trans (bnd_of hr27) (Eq.trans (if_pos h32) (Eq.trans (bnd_of hr39) (Eq.trans (if_pos h45) (bnd_of hr52))))
  obtain ⟨rfl, rfl⟩ := pj2 (e.symm.trans hr)
  exact ⟨rfl, H57, (by omega), (by omega), (by omega)⟩
  refine Wp.cond1 rfl (decide_eq_true h45) (Wp.seq (Wp.region (Mv rfl rfl (As rfl rfl (As rfl rfl (WL.nil (Fin.then (Wp.ret (Fin.thenR (Fin.res (res2 rfl rfl rfl) ?_))))))))))
  have H58 : Own w D w40 [] := H42.pick [] (by decide) rfl
  have e : owner_Find l0 p1 = (0, r38) := Eq.trans (bnd_of hr27) (Eq.trans (if_pos h32) (Eq.trans (bnd_of hr39) (if_neg h45)))
  obtain ⟨rfl, rfl⟩ := pj2 (e.symm.trans hr)
  exact ⟨rfl, H58, (by omega), (by omega), (by omega)⟩
  refine Wp.cond1 rfl (decide_eq_true h32) (Wp.seq (Wp.region (Mv rfl rfl (As rfl rfl (As rfl rfl (WL.nil (Fin.then (Wp.ret (Fin.thenR (Fin.res (res2 rfl rfl rfl) ?_))))))))))
  have H59 : Own w D w28 [] := H30.pick [] (by decide) rfl
  have e : owner_Find l0 p1 = (0, r26) := Eq.trans (bnd_of hr27) (if_neg h32)
  obtain ⟨rfl, rfl⟩ := pj2 (e.symm.trans hr)
  exact ⟨rfl, H59, (by omega), (by omega), (by omega)⟩

def owner_RangeOf (l0 : List OwnerD) (p1 : Int) : RangeD × Int :=
  bnd (owner_Check l0) fun yr29 => if yr29 = 0 then if p1 < 0 then (RangeD.mk ([]) ([]), 5) else if p1 ≥ ((List.length l0 : Nat) : Int) then (RangeD.mk ([]) ([]), 5) else bnd (owner_rangeOf l0 p1) fun yr49 => (yr49, 0) else (RangeD.mk ([]) ([]), yr29)

set_option maxRecDepth 100000 in
theorem owner_RangeOf_ok (w : World) (D : Nat → Prop) (A0 : Option Addr) (n0 c0 : Nat) (l0 : List OwnerD) (p1 : Int) (r0 : RangeD) (r1 : Int) (H : Own w D w []) (hx0 : Ro w D fun w' => Rds w' 2 A0 n0 (List.flatMap OwnerD.cells l0)) (hn0 : n0 = List.length l0) (hl0 : List.length l0 * 24 ≤ 211106232532992) (hr : owner_RangeOf l0 p1 = (r0, r1)) :
    Calls Try.prog 12 #[.slice A0 n0 c0, .int .i64 p1] w (Ret fun v w' => v = .tuple #[.agg (RangeD.cells r0).toArray, .int .i64 r1] ∧ Own w D w' [] ∧ (¬ (r1 = 0) ∨ (0 ≤ p1 ∧ p1 < ((List.length l0 : Nat) : Int) ∧ List.length l0 ≤ 6))) := by
  subst hn0
  refine Calls.body (args := [.slice A0 (List.length l0) c0, .int .i64 p1]) Try.func12 rfl rfl rfl ?_
  show Wp _ _ _ [(0, .slice A0 (List.length l0) c0), (1, .int .i64 p1)] _ _
  refine Wp.seq (Wp.region ?_)
  refine WL.do rfl (Do.newP (cs := [.string ⟨List.toArray ([])⟩, .string ⟨List.toArray ([])⟩]) (t := 24) H rfl rfl (fun _ => by kernel_rfl) ?_)
  intro g21 w22 H23
  replace H23 : Own w D w22 [blk g21 [.string ⟨List.toArray ([])⟩, .string ⟨List.toArray ([])⟩] 24] := H23
  refine As rfl rfl (WL.nil (Fin.then (Wp.seq (Wp.seq (Wp.region (Mv rfl rfl ?_))))))
  obtain ⟨r29, hr30⟩ : ∃ q, owner_Check l0 = q := ⟨_, rfl⟩
  obtain ⟨D24, HP25, ro26, bk27, rr28⟩ := Own.enter0 H23
  refine WL.do rfl (Do.call Try.call14 rfl (owner_Check_ok _ _ A0 (List.length l0) c0 l0 r29 HP25 (ro26 _ hx0) rfl (by omega) hr30) ?_)
  rintro _ w31 ⟨rfl, HQ32, hk34⟩
  have H33 : Own w D w31 [blk g21 [.string ⟨List.toArray ([])⟩, .string ⟨List.toArray ([])⟩] 24] := bk27 _ _ HQ32
  replace hk34 : ¬ (r29 = 0) ∨ (1 ≤ List.length l0 ∧ List.length l0 ≤ 6) := hk34
  refine As rfl rfl (WL.nil (Fin.then (Wp.seq (Wp.region (Mv rfl rfl (WL.val (v := .bool (decide (¬ (r29 = 0)))) rfl (Yl.bool (e := !(decide (r29 = 0))) (Yl.kern rfl rfl (fun _ => by kernel_rfl)) decide_not.symm) (WL.nil (Fin.then ?_))))))))
  by_cases h35 : r29 = 0
  refine Wp.cond0 rfl (decide_eq_false (not_not_intro h35)) (Wp.skip (Fin.then (Wp.seq (Wp.seq (Wp.region (Mv rfl rfl (Kn (v := .bool (decide (p1 < 0))) rfl rfl rfl (fun _ => by kernel_rfl) (Mv rfl rfl ?_))))))))
  by_cases h36 : p1 < 0
  refine Sk rfl rfl (decide_eq_true h36) rfl (Sk rfl rfl (decide_eq_true h36) rfl (Sk rfl rfl (decide_eq_true h36) rfl (Sk rfl rfl (decide_eq_true h36) rfl (WL.val (v := .bool true) rfl (Yl.pickT rfl (decide_eq_true h36) rfl) (WL.nil (Fin.then (Wp.cond1 rfl rfl (Wp.seq (Wp.region (Kn (v := .agg #[.string ⟨List.toArray ([])⟩, .string ⟨List.toArray ([])⟩]) rfl rfl rfl (fun _ => by kernel_rfl) ?_))))))))))
  refine WL.do0 (Do.store (vs := [.string ⟨List.toArray ([])⟩, .string ⟨List.toArray ([])⟩]) (o := 0) H33 rfl rfl Try.sizeOf24 rfl rfl rfl rfl ?_)
  intro w37 H38
  replace H38 : Own w D w37 [blk g21 [.string ⟨List.toArray ([])⟩, .string ⟨List.toArray ([])⟩] 24] := H38
  refine As rfl rfl (WL.nil (Fin.then (Wp.ret (Fin.thenR (Fin.res (resN (vs := [.agg #[.string ⟨List.toArray ([])⟩, .string ⟨List.toArray ([])⟩], .int .i64 5]) rfl (ResV.cell rfl (Lds.agg (cs := [.string ⟨List.toArray ([])⟩, .string ⟨List.toArray ([])⟩]) Try.isAgg24 Try.sizeOf24 ((H38.cls (i := 0) rfl).lit (k := 0) (m := 2) rfl)) (ResV.tmp rfl ResV.nil)) (Nat.le_of_ble_eq_true rfl)) ?_)))))
  have H39 : Own w D w37 [] := H38.pick [] (by decide) rfl
  have e : owner_RangeOf l0 p1 = (RangeD.mk ([]) ([]), 5) := Eq.trans (bnd_of hr30) (Eq.trans (if_pos h35) (if_pos h36))
  obtain ⟨rfl, rfl⟩ := pj2 (e.symm.trans hr)
  exact ⟨rfl, H39, (by omega)⟩
  refine WL.valG (v := .int .i64 p1) rfl rfl (decide_eq_false h36) rfl (Yl.move rfl) (WL.valG (v := .slice A0 (List.length l0) c0) rfl rfl (decide_eq_false h36) rfl (Yl.move rfl) (WL.valG (v := .int .i64 ((List.length l0 : Nat) : Int)) rfl rfl (decide_eq_false h36) rfl (Yl.kern rfl rfl (fun _ => by kernel_rfl)) (WL.valG (v := .bool (decide (p1 ≥ ((List.length l0 : Nat) : Int)))) rfl rfl (decide_eq_false h36) rfl (Yl.kern rfl rfl (fun _ => by kernel_rfl)) (WL.val (v := .bool (decide (p1 ≥ ((List.length l0 : Nat) : Int)))) rfl (Yl.pickF rfl (decide_eq_false h36) rfl) (WL.nil (Fin.then ?_))))))
  by_cases h40 : p1 ≥ ((List.length l0 : Nat) : Int)
  refine Wp.cond1 rfl (decide_eq_true h40) (Wp.seq (Wp.region (Kn (v := .agg #[.string ⟨List.toArray ([])⟩, .string ⟨List.toArray ([])⟩]) rfl rfl rfl (fun _ => by kernel_rfl) ?_)))
  refine WL.do0 (Do.store (vs := [.string ⟨List.toArray ([])⟩, .string ⟨List.toArray ([])⟩]) (o := 0) H33 rfl rfl Try.sizeOf24 rfl rfl rfl rfl ?_)
  intro w41 H42
  replace H42 : Own w D w41 [blk g21 [.string ⟨List.toArray ([])⟩, .string ⟨List.toArray ([])⟩] 24] := H42
  refine As rfl rfl (WL.nil (Fin.then (Wp.ret (Fin.thenR (Fin.res (resN (vs := [.agg #[.string ⟨List.toArray ([])⟩, .string ⟨List.toArray ([])⟩], .int .i64 5]) rfl (ResV.cell rfl (Lds.agg (cs := [.string ⟨List.toArray ([])⟩, .string ⟨List.toArray ([])⟩]) Try.isAgg24 Try.sizeOf24 ((H42.cls (i := 0) rfl).lit (k := 0) (m := 2) rfl)) (ResV.tmp rfl ResV.nil)) (Nat.le_of_ble_eq_true rfl)) ?_)))))
  have H43 : Own w D w41 [] := H42.pick [] (by decide) rfl
  have e : owner_RangeOf l0 p1 = (RangeD.mk ([]) ([]), 5) := Eq.trans (bnd_of hr30) (Eq.trans (if_pos h35) (Eq.trans (if_neg h36) (if_pos h40)))
  obtain ⟨rfl, rfl⟩ := pj2 (e.symm.trans hr)
  exact ⟨rfl, H43, (by omega)⟩
  refine Wp.cond0 rfl (decide_eq_false h40) (Wp.skip (Fin.then (Wp.seq (Wp.region (Mv rfl rfl (Mv rfl rfl ?_))))))
  obtain ⟨r49, hr50⟩ : ∃ q, owner_rangeOf l0 p1 = q := ⟨_, rfl⟩
  obtain ⟨D44, HP45, ro46, bk47, rr48⟩ := Own.enter0 H33
  refine WL.do rfl (Do.call Try.call36 rfl (owner_rangeOf_ok _ _ A0 (List.length l0) c0 l0 p1 r49 HP45 (ro46 _ hx0) rfl (by omega) (by omega) hr50) ?_)
  rintro _ w51 ⟨rfl, HQ52⟩
  have H53 : Own w D w51 [blk g21 [.string ⟨List.toArray ([])⟩, .string ⟨List.toArray ([])⟩] 24] := bk47 _ _ HQ52
  refine WL.do0 (Do.store (vs := (RangeD.cells r49)) (o := 0) H53 rfl rfl Try.sizeOf24 rfl rfl rfl rfl ?_)
  intro w54 H55
  replace H55 : Own w D w54 [blk g21 (RangeD.cells r49) 24] := H55
  refine As rfl rfl (WL.nil (Fin.then (Wp.ret (Fin.res (resN (vs := [.agg (RangeD.cells r49).toArray, .int .i64 0]) rfl (ResV.cell rfl (Lds.agg (cs := (RangeD.cells r49)) Try.isAgg24 Try.sizeOf24 ((H55.cls (i := 0) rfl).lit (k := 0) (m := 2) rfl)) (ResV.tmp rfl ResV.nil)) (Nat.le_of_ble_eq_true rfl)) ?_))))
  have H56 : Own w D w54 [] := H55.pick [] (by decide) rfl
  have e : owner_RangeOf l0 p1 = (r49, 0) := Eq.trans (bnd_of hr30) (Eq.trans (if_pos h35) (Eq.trans (if_neg h36) (Eq.trans (if_neg h40) (bnd_of hr50))))
  obtain ⟨rfl, rfl⟩ := pj2 (e.symm.trans hr)
  exact ⟨rfl, H56, (by omega)⟩
  refine Wp.cond1 rfl (decide_eq_true h35) (Wp.seq (Wp.region (Kn (v := .agg #[.string ⟨List.toArray ([])⟩, .string ⟨List.toArray ([])⟩]) rfl rfl rfl (fun _ => by kernel_rfl) (Mv rfl rfl ?_))))
  refine WL.do0 (Do.store (vs := [.string ⟨List.toArray ([])⟩, .string ⟨List.toArray ([])⟩]) (o := 0) H33 rfl rfl Try.sizeOf24 rfl rfl rfl rfl ?_)
  intro w57 H58
  replace H58 : Own w D w57 [blk g21 [.string ⟨List.toArray ([])⟩, .string ⟨List.toArray ([])⟩] 24] := H58
  refine As rfl rfl (WL.nil (Fin.then (Wp.ret (Fin.thenR (Fin.res (resN (vs := [.agg #[.string ⟨List.toArray ([])⟩, .string ⟨List.toArray ([])⟩], .int .i64 r29]) rfl (ResV.cell rfl (Lds.agg (cs := [.string ⟨List.toArray ([])⟩, .string ⟨List.toArray ([])⟩]) Try.isAgg24 Try.sizeOf24 ((H58.cls (i := 0) rfl).lit (k := 0) (m := 2) rfl)) (ResV.tmp rfl ResV.nil)) (Nat.le_of_ble_eq_true rfl)) ?_)))))
  have H59 : Own w D w57 [] := H58.pick [] (by decide) rfl
  have e : owner_RangeOf l0 p1 = (RangeD.mk ([]) ([]), r29) := Eq.trans (bnd_of hr30) (if_neg h35)
  obtain ⟨rfl, rfl⟩ := pj2 (e.symm.trans hr)
  exact ⟨rfl, H59, (by omega)⟩

def slices_Clone_api_Owner_api_Owner (l0 : List OwnerD) : (List OwnerD) :=
  l0

set_option maxRecDepth 100000 in
theorem slices_Clone_api_Owner_api_Owner_ok (w : World) (D : Nat → Prop) (A0 : Option Addr) (n0 c0 : Nat) (l0 : List OwnerD) (r0 : List OwnerD) (H : Own w D w []) (hx0 : Ro w D fun w' => Rds w' 2 A0 n0 (List.flatMap OwnerD.cells l0)) (hn0 : n0 = List.length l0) (hl0 : List.length l0 * 24 ≤ 211106232532992) (hr : slices_Clone_api_Owner_api_Owner l0 = r0) :
    Calls Try.prog 43 #[.slice A0 n0 c0] w (Ret fun v w' => ∃ (B0 : Option Addr) (b0 : Nat), v = .slice B0 (List.length r0) b0 ∧ Own w D w' [row B0 (List.length r0) b0 (List.flatMap OwnerD.cells r0) 39 2]) := by
  subst hn0
  refine Calls.body (args := [.slice A0 (List.length l0) c0]) Try.func43 rfl rfl rfl ?_
  show Wp _ _ _ [(0, .slice A0 (List.length l0) c0)] _ _
  refine Wp.seq (Wp.region (As rfl rfl (WL.nil (Fin.then (Wp.seq (Wp.seq (Wp.region (Mv rfl rfl (WL.val (v := .bool (Option.isNone A0)) rfl (Yl.sliceNil Try.underlying22 rfl rfl) (WL.nil (Fin.then ?_)))))))))))
  rcases Bool.eq_false_or_eq_true (Option.isNone A0) with h21 | h21
  obtain rfl : l0 = [] := rds_none (enc := OwnerD.cells) (H.ro hx0) h21
  refine Wp.cond1 rfl h21 (Wp.seq (Wp.region (As rfl rfl (WL.nil (Fin.then (Wp.ret (Fin.thenR (Fin.res (res1 rfl rfl) ?_))))))))
  have H22 : Own w D w [row none 0 0 (List.flatMap OwnerD.cells ([])) 39 2] := H.free (row_nil 39 2)
  have H23 : Own w D w [row none 0 0 (List.flatMap OwnerD.cells ([])) 39 2] := H22.pick [0] (by decide) rfl
  have e : slices_Clone_api_Owner_api_Owner ([]) = ([]) := rfl
  obtain rfl := e.symm.trans hr
  exact ⟨none, 0, rfl, H23⟩
  refine Wp.cond0 rfl h21 (Wp.skip (Fin.then (Wp.seq (Wp.region ?_))))
  refine WL.do rfl (Do.newRow (cs := []) (t := 39) (sz := 2) (m := 0) H rfl rfl (fun _ => by kernel_rfl) rfl (by decide) ?_)
  intro A24 w25 H26
  replace H26 : Own w D w25 [row A24 0 0 (List.flatMap OwnerD.cells ([])) 39 2] := H26
  refine Mv rfl rfl ?_
  refine WL.do rfl (Do.appendW (k := 0) (m := List.length l0) (El22) H26 rfl rfl (src_of Try.underlying22 (H26.ro hx0) (flat_one OwnerD.one l0)) rfl (by omega) (s := List.length l0) (by omega) rfl ?_)
  intro A27 c28 w29 H30
  replace H30 : Own w D w29 [row A27 (List.length l0) c28 (List.flatMap OwnerD.cells l0) 39 2] := H30
  refine As rfl rfl (WL.nil (Fin.then (Wp.ret (Fin.res (res1 rfl rfl) ?_))))
  have H31 : Own w D w29 [row A27 (List.length l0) c28 (List.flatMap OwnerD.cells l0) 39 2] := H30.pick [0] (by decide) rfl
  have e : slices_Clone_api_Owner_api_Owner l0 = l0 := rfl
  obtain rfl := e.symm.trans hr
  exact ⟨A27, c28, rfl, H31⟩

def slices_Insert_api_Owner_api_Owner (l0 : List OwnerD) (p1 : Int) (x2 : OwnerD) : (List OwnerD) :=
  if ((Int.toNat p1 : Nat) : Int) = ((List.length l0 : Nat) : Int) then (l0 ++ [x2]) else (List.take (Int.toNat p1) l0 ++ (x2 :: List.drop (Int.toNat p1) l0))

set_option maxRecDepth 100000 in
theorem slices_Insert_api_Owner_api_Owner_ok (w : World) (D : Nat → Prop) (A0 : Option Addr) (n0 c0 : Nat) (l0 : List OwnerD) (p1 : Int) (A2 : Option Addr) (x2 : OwnerD) (r0 : List OwnerD) (H : Own w D w [row A0 n0 c0 (List.flatMap OwnerD.cells l0) 39 2, rowz A2 1 (List.flatMap OwnerD.cells ([x2])) 39 2]) (hn0 : n0 = List.length l0) (hl0 : List.length l0 * 24 ≤ 211106232532992) (hh0 : 0 ≤ p1 ∧ p1 ≤ ((List.length l0 : Nat) : Int) ∧ (List.length l0 + 1) * 24 ≤ 211106232532992) (hr : slices_Insert_api_Owner_api_Owner l0 p1 x2 = r0) :
    Calls Try.prog 42 #[.slice A0 n0 c0, .int .i64 p1, .slice A2 1 1] w (Ret fun v w' => ∃ (B0 : Option Addr) (b0 : Nat), v = .slice B0 (List.length r0) b0 ∧ Own w D w' [row B0 (List.length r0) b0 (List.flatMap OwnerD.cells r0) 39 2] ∧ (List.length r0 = List.length l0 + 1)) := by
  subst hn0
  have hc0 := H.rowC (i := 0) rfl
  refine Calls.body (args := [.slice A0 (List.length l0) c0, .int .i64 p1, .slice A2 1 1]) Try.func42 rfl rfl rfl ?_
  show Wp _ _ _ [(0, .slice A0 (List.length l0) c0), (1, .int .i64 p1), (2, .slice A2 1 1)] _ _
  refine Wp.seq (Wp.region (As rfl rfl (WL.nil (Fin.then (Wp.seq (Wp.region (Mv rfl rfl (WL.val (v := .int .i64 ((Int.toNat p1 : Nat) : Int)) rfl (Yl.int (e := p1) (Yl.move rfl) (by omega)) (WL.val (v := .slice (cutA A0 (Int.toNat p1) 2 c0) ((List.length l0) - (Int.toNat p1)) (c0 - (Int.toNat p1))) rfl (Yl.cutFrom (El22) rfl rfl (by omega)) (WL.nil (Fin.then (Wp.seq (Wp.region (Mv rfl rfl (Kn (v := .int .i64 1) rfl rfl rfl (fun _ => by kernel_rfl) (As rfl rfl (WL.nil (Fin.then (Wp.seq (Wp.seq (Wp.region (Mv rfl rfl (Kn (v := .bool false) rfl rfl rfl (fun _ => by kernel_rfl) (WL.nil (Fin.then (Wp.cond0 rfl rfl (Wp.skip (Fin.then (Wp.seq (Wp.region (Mv rfl rfl (Kn (v := .int .i64 ((List.length l0 : Nat) : Int)) rfl rfl rfl (fun _ => by kernel_rfl) (As rfl rfl (WL.nil (Fin.then (Wp.seq (Wp.seq (Wp.region (WL.val (v := .int .i64 ((Int.toNat p1 : Nat) : Int)) rfl (Yl.int (e := p1) (Yl.move rfl) (by omega)) ?_)))))))))))))))))))))))))))))))))))))))
  refine Mv rfl rfl (Kn (v := .bool (decide (((Int.toNat p1 : Nat) : Int) = ((List.length l0 : Nat) : Int)))) rfl rfl rfl (fun _ => by kernel_rfl) (WL.nil (Fin.then ?_)))
  by_cases h21 : ((Int.toNat p1 : Nat) : Int) = ((List.length l0 : Nat) : Int)
  refine Wp.cond1 rfl (decide_eq_true h21) (Wp.seq (Wp.region (Mv rfl rfl (Mv rfl rfl ?_))))
  refine WL.do rfl (Do.appendW (k := List.length l0) (m := 1) (El22) H rfl rfl (src_of Try.underlying22 (own_rd H (i := 1) rfl rowz_rds) (flat_one OwnerD.one ([x2]))) rfl (by omega) (s := List.length (l0 ++ [x2])) (by first | omega | (simp only [List.length_append, List.length_cons, List.length_nil] <;> omega)) (List.flatMap_append).symm ?_)
  intro A22 c23 w24 H25
  replace H25 : Own w D w24 [row A22 (List.length (l0 ++ [x2])) c23 (List.flatMap OwnerD.cells (l0 ++ [x2])) 39 2, rowz A2 1 (List.flatMap OwnerD.cells ([x2])) 39 2] := H25
  have hl26 : List.length (l0 ++ [x2]) = List.length l0 + 1 := by simp only [List.length_append, List.length_cons, List.length_nil]
  refine As rfl rfl (WL.nil (Fin.then (Wp.ret (Fin.thenR (Fin.res (res1 rfl rfl) ?_)))))
  have H27 : Own w D w24 [row A22 (List.length (l0 ++ [x2])) c23 (List.flatMap OwnerD.cells (l0 ++ [x2])) 39 2] := H25.pick [0] (by decide) rfl
  have e : slices_Insert_api_Owner_api_Owner l0 p1 x2 = (l0 ++ [x2]) := if_pos h21
  obtain rfl := e.symm.trans hr
  exact ⟨A22, c23, rfl, H27, (by omega)⟩
  refine Wp.cond0 rfl (decide_eq_false h21) (Wp.skip (Fin.then (Wp.seq (Wp.seq (Wp.region (Mv rfl rfl (Mv rfl rfl (WL.val (v := .int .i64 ((List.length l0 + 1 : Nat) : Int)) rfl (Yl.int (e := IntKind.i64.wrap (((List.length l0 : Nat) : Int) + 1)) (Yl.kern rfl rfl (fun _ => by kernel_rfl)) (by rw [IntWalk.i64_in _ (by omega)]; omega)) (Mv rfl rfl (Kn (v := .int .i64 ((c0 : Nat) : Int)) rfl rfl rfl (fun _ => by kernel_rfl) (Kn (v := .bool (decide (((List.length l0 + 1 : Nat) : Int) > ((c0 : Nat) : Int)))) rfl rfl rfl (fun _ => by kernel_rfl) (WL.nil (Fin.then ?_)))))))))))))
  by_cases h28 : ((List.length l0 + 1 : Nat) : Int) > ((c0 : Nat) : Int)
  refine Wp.cond1 rfl (decide_eq_true h28) (Wp.seq (Wp.region (Mv rfl rfl (WL.val (v := .int .i64 ((Int.toNat p1 : Nat) : Int)) rfl (Yl.int (e := p1) (Yl.move rfl) (by omega)) (WL.val (v := .slice A0 (Int.toNat p1) c0) rfl (Yl.cutTo (El22) rfl rfl (by omega)) (Mv rfl rfl (Mv rfl rfl (WL.val (v := .int .i64 ((List.length l0 + 1 : Nat) : Int)) rfl (Yl.int (e := IntKind.i64.wrap (((List.length l0 : Nat) : Int) + 1)) (Yl.kern rfl rfl (fun _ => by kernel_rfl)) (by rw [IntWalk.i64_in _ (by omega)]; omega)) (WL.val (v := .int .i64 ((Int.toNat p1 : Nat) : Int)) rfl (Yl.int (e := p1) (Yl.move rfl) (by omega)) (WL.val (v := .int .i64 (((List.length l0 + 1) - (Int.toNat p1) : Nat) : Int)) rfl (Yl.int (e := IntKind.i64.wrap (((List.length l0 + 1 : Nat) : Int) - ((Int.toNat p1 : Nat) : Int))) (Yl.kern rfl rfl (fun _ => by kernel_rfl)) (by rw [IntWalk.i64_in _ (by omega)]; omega)) ?_))))))))))
  have hl29 : List.length (List.take (Int.toNat p1) l0 ++ (x2 :: List.drop (Int.toNat p1) l0)) = List.length l0 + 1 := by simp only [List.length_append, List.length_take, List.length_cons, List.length_drop]; omega
  refine WL.do rfl (Do.appendZeros (k := Int.toNat p1) (m := (List.length l0 + 1) - (Int.toNat p1)) (El22) Try.underlying3 H rfl rfl (by omega) (by omega) (by omega) rfl (by omega) (s := List.length (List.take (Int.toNat p1) l0 ++ (x2 :: List.drop (Int.toNat p1) l0))) (by omega) ?_)
  intro A30 c31 zs32 w34 hz33 H35
  replace H35 : Own w D w34 [row A30 (List.length (List.take (Int.toNat p1) l0 ++ (x2 :: List.drop (Int.toNat p1) l0))) c31 ((List.flatMap OwnerD.cells l0).take ((Int.toNat p1) * 2) ++ zs32) 39 2, row A0 (List.length l0) c0 (List.flatMap OwnerD.cells l0) 39 2, rowz A2 1 (List.flatMap OwnerD.cells ([x2])) 39 2] := H35
  have hle36 := H35.rowLe (i := 0) rfl
  refine As rfl rfl (WL.nil (Fin.then (Wp.seq (Wp.region (Mv rfl rfl (WL.val (v := .int .i64 ((Int.toNat p1 : Nat) : Int)) rfl (Yl.int (e := p1) (Yl.move rfl) (by omega)) (WL.val (v := .slice (cutA A30 (Int.toNat p1) 2 c31) ((List.length (List.take (Int.toNat p1) l0 ++ (x2 :: List.drop (Int.toNat p1) l0))) - (Int.toNat p1)) (c31 - (Int.toNat p1))) rfl (Yl.cutFrom (El22) rfl rfl (by omega)) (Mv rfl rfl ?_))))))))
  refine WL.do rfl (Do.copyT (lo := Int.toNat p1) (k := 1) (El22) H35 rfl (fun _ => cutA_pos ((H35.rds (i := 0) rfl).isSome (by omega)) (by omega)) (by omega) rfl (own_rd H35 (i := 2) rfl rowz_rds) (by omega) (fun u hu => flat_one OwnerD.one _ u (List.mem_of_mem_take hu)) rfl ?_)
  intro w37 H38
  replace H38 : Own w D w37 [row A30 (List.length (List.take (Int.toNat p1) l0 ++ (x2 :: List.drop (Int.toNat p1) l0))) c31 (put ((List.flatMap OwnerD.cells l0).take ((Int.toNat p1) * 2) ++ zs32) ((Int.toNat p1) * 2) (List.take (1 * 2) (List.flatMap OwnerD.cells [x2]))) 39 2, row A0 (List.length l0) c0 (List.flatMap OwnerD.cells l0) 39 2, rowz A2 1 (List.flatMap OwnerD.cells ([x2])) 39 2] := H38
  refine WL.nil (Fin.then (Wp.seq ?_))
  have H40 := H38.drew
  refine Wp.drawnX [8] (fun W => ∃ L', Own w D W ([row A30 (List.length (List.take (Int.toNat p1) l0 ++ (x2 :: List.drop (Int.toNat p1) l0))) c31 (put ((List.flatMap OwnerD.cells l0).take ((Int.toNat p1) * 2) ++ zs32) ((Int.toNat p1) * 2) (List.take (1 * 2) (List.flatMap OwnerD.cells [x2]))) 39 2, row A0 (List.length l0) c0 (List.flatMap OwnerD.cells l0) 39 2, rowz A2 1 (List.flatMap OwnerD.cells ([x2])) 39 2] ++ L')) (by kernel_rfl) (by kernel_rfl) (NoP.then (NoP.then NoP.base)) ⟨_, H40⟩ ?_
  revert H40
  generalize World.drew w37 = w39
  intro H40
  replace H40 : Own w D w39 [row A30 (List.length (List.take (Int.toNat p1) l0 ++ (x2 :: List.drop (Int.toNat p1) l0))) c31 (put ((List.flatMap OwnerD.cells l0).take ((Int.toNat p1) * 2) ++ zs32) ((Int.toNat p1) * 2) (List.take (1 * 2) (List.flatMap OwnerD.cells [x2]))) 39 2, row A0 (List.length l0) c0 (List.flatMap OwnerD.cells l0) 39 2, rowz A2 1 (List.flatMap OwnerD.cells ([x2])) 39 2] := H40
  refine GX.take (v := .slice A30 (List.length (List.take (Int.toNat p1) l0 ++ (x2 :: List.drop (Int.toNat p1) l0))) c31) (rs := [[4]]) 0 rfl (by kernel_rfl) (fun _ _ => Yl.move rfl) (GX.take (v := .int .i64 ((Int.toNat p1 : Nat) : Int)) (rs := [[4, 3]]) 1 rfl (by kernel_rfl) (fun _ _ => Yl.int (e := p1) (Yl.move rfl) (by omega)) (GX.take (v := .int .i64 1) (rs := [[4, 3]]) 2 rfl (by kernel_rfl) (fun _ _ => Yl.move rfl) (GX.take (v := .int .i64 ((Int.toNat p1 + 1 : Nat) : Int)) (rs := [[4]]) 3 rfl (by kernel_rfl) (fun _ _ => Yl.int (e := IntKind.i64.wrap (((Int.toNat p1 : Nat) : Int) + 1)) (Yl.kern rfl rfl (fun _ => by kernel_rfl)) (by rw [IntWalk.i64_in _ (by omega)]; omega)) (GX.take (v := .slice (cutA A30 (Int.toNat p1 + 1) 2 c31) ((List.length (List.take (Int.toNat p1) l0 ++ (x2 :: List.drop (Int.toNat p1) l0))) - (Int.toNat p1 + 1)) (c31 - (Int.toNat p1 + 1))) (rs := [[]]) 4 rfl (by kernel_rfl) (fun _ _ => Yl.cutFrom (El22) rfl rfl (by omega)) (GX.take (v := .slice A0 (List.length l0) c0) (rs := [[7]]) 5 rfl (by kernel_rfl) (fun _ _ => Yl.move rfl) (GX.take (v := .int .i64 ((Int.toNat p1 : Nat) : Int)) (rs := [[7]]) 6 rfl (by kernel_rfl) (fun _ _ => Yl.int (e := p1) (Yl.move rfl) (by omega)) (GX.take (v := .slice (cutA A0 (Int.toNat p1) 2 c0) ((List.length l0) - (Int.toNat p1)) (c0 - (Int.toNat p1))) (rs := [[]]) 7 rfl (by kernel_rfl) (fun _ _ => Yl.cutFrom (El22) rfl rfl (by omega)) ?_)))))))
  refine GX.do 8 rfl (by kernel_rfl) (Do.copyT (lo := Int.toNat p1 + 1) (k := List.length l0 - Int.toNat p1) (El22) H40 rfl (fun _ => cutA_pos ((H40.rds (i := 0) rfl).isSome (by omega)) (by omega)) (by omega) rfl (Rds.fromE (lo := Int.toNat p1) OwnerD.len (H40.rds (i := 1) rfl) (by omega) (by omega) (by decide)) (by omega) (fun u hu => flat_one OwnerD.one _ u (List.mem_of_mem_take hu)) rfl ?_)
  intro w41 H42
  replace H42 : Own w D w41 [row A30 (List.length (List.take (Int.toNat p1) l0 ++ (x2 :: List.drop (Int.toNat p1) l0))) c31 (put (put ((List.flatMap OwnerD.cells l0).take ((Int.toNat p1) * 2) ++ zs32) ((Int.toNat p1) * 2) (List.take (1 * 2) (List.flatMap OwnerD.cells [x2]))) ((Int.toNat p1 + 1) * 2) (List.take ((List.length l0 - Int.toNat p1) * 2) (List.flatMap OwnerD.cells (List.drop (Int.toNat p1) l0)))) 39 2, row A0 (List.length l0) c0 (List.flatMap OwnerD.cells l0) 39 2, rowz A2 1 (List.flatMap OwnerD.cells ([x2])) 39 2] := H42
  refine ⟨.inl (by kernel_rfl), ?_⟩
  refine GX.done (by kernel_rfl) (Fin.then (Wp.seq (Wp.region (Mv rfl rfl (As rfl rfl (WL.nil (Fin.then (Wp.ret (Fin.thenR (Fin.res (res1 rfl rfl) ?_))))))))))
  have H43 : Own w D w41 [row A30 (List.length (List.take (Int.toNat p1) l0 ++ (x2 :: List.drop (Int.toNat p1) l0))) c31 (List.flatMap OwnerD.cells (List.take (Int.toNat p1) l0 ++ (x2 :: List.drop (Int.toNat p1) l0))) 39 2, row A0 (List.length l0) c0 (List.flatMap OwnerD.cells l0) 39 2, rowz A2 1 (List.flatMap OwnerD.cells ([x2])) 39 2] := H42.rowPart (by omega) (ins_grow (l := l0) (k2 := List.length l0 - Int.toNat p1) OwnerD.len (by omega) hz33 rfl rfl (by omega))
  have H44 : Own w D w41 [row A30 (List.length (List.take (Int.toNat p1) l0 ++ (x2 :: List.drop (Int.toNat p1) l0))) c31 (List.flatMap OwnerD.cells (List.take (Int.toNat p1) l0 ++ (x2 :: List.drop (Int.toNat p1) l0))) 39 2] := H43.pick [0] (by decide) rfl
  have e : slices_Insert_api_Owner_api_Owner l0 p1 x2 = (List.take (Int.toNat p1) l0 ++ (x2 :: List.drop (Int.toNat p1) l0)) := if_neg h21
  obtain rfl := e.symm.trans hr
  exact ⟨A30, c31, rfl, H44, (by omega)⟩
  refine Wp.cond0 rfl (decide_eq_false h28) (Wp.skip (Fin.then (Wp.seq (Wp.region ?_))))
  have hl45 : List.length (List.take (Int.toNat p1) l0 ++ (x2 :: List.drop (Int.toNat p1) l0)) = List.length l0 + 1 := by simp only [List.length_append, List.length_take, List.length_cons, List.length_drop]; omega
  obtain ⟨sp46, hsp47, H48⟩ := H.rowFull
  replace H48 : Own w D w [row A0 c0 c0 ((List.flatMap OwnerD.cells l0) ++ sp46) 39 2, rowz A2 1 (List.flatMap OwnerD.cells ([x2])) 39 2] := H48
  refine Mv rfl rfl (Mv rfl rfl (Mv rfl rfl (WL.val (v := .int .i64 ((List.length l0 + 1 : Nat) : Int)) rfl (Yl.int (e := IntKind.i64.wrap (((List.length l0 : Nat) : Int) + 1)) (Yl.kern rfl rfl (fun _ => by kernel_rfl)) (by rw [IntWalk.i64_in _ (by omega)]; omega)) (WL.val (v := .slice A0 (List.length (List.take (Int.toNat p1) l0 ++ (x2 :: List.drop (Int.toNat p1) l0))) c0) rfl (Yl.to (Yl.cutTo (El22) rfl rfl (by omega)) (congrArg (fun q => Value.slice A0 q c0) hl45.symm)) (As rfl rfl (WL.nil (Fin.then (Wp.seq (Wp.seq (Wp.region (Mv rfl rfl (Mv rfl rfl (WL.val (v := .int .i64 ((Int.toNat p1 : Nat) : Int)) rfl (Yl.int (e := p1) (Yl.move rfl) (by omega)) (Mv rfl rfl (WL.val (v := .int .i64 ((Int.toNat p1 + 1 : Nat) : Int)) rfl (Yl.int (e := IntKind.i64.wrap (((Int.toNat p1 : Nat) : Int) + 1)) (Yl.kern rfl rfl (fun _ => by kernel_rfl)) (by rw [IntWalk.i64_in _ (by omega)]; omega)) (WL.val (v := .slice (cutA A0 (Int.toNat p1 + 1) 2 c0) ((List.length (List.take (Int.toNat p1) l0 ++ (x2 :: List.drop (Int.toNat p1) l0))) - (Int.toNat p1 + 1)) (c0 - (Int.toNat p1 + 1))) rfl (Yl.cutFrom (El22) rfl rfl (by omega)) ?_))))))))))))))))
  have H49 : Own w D w [rowz A2 1 (List.flatMap OwnerD.cells ([x2])) 39 2, row A0 c0 c0 ((List.flatMap OwnerD.cells l0) ++ sp46) 39 2] := H48.pick [1, 0] (by decide) rfl
  refine WL.val (v := .bool false) rfl (Yl.overlapsNo (lo := Int.toNat p1 + 1) (run_callFunc_extern Try.func59 (by kernel_rfl) (by kernel_rfl) (by kernel_rfl) (e := Extern.SlicesOverlaps.overlaps #[22, 22] #[4]) (by kernel_rfl)) Try.underlying22 Try.sizeOf39 H49 (by decide) (by omega) rfl (cutA_pos ((H49.rds (i := 1) rfl).isSome (by omega)) (by omega))) (Kn (v := .bool true) rfl rfl rfl (fun _ => by kernel_rfl) (WL.nil (Fin.then (Wp.cond1 rfl rfl (Wp.seq ?_)))))
  have H51 := H49.drew
  refine Wp.drawnX [8] (fun W => ∃ L', Own w D W ([rowz A2 1 (List.flatMap OwnerD.cells ([x2])) 39 2, row A0 c0 c0 ((List.flatMap OwnerD.cells l0) ++ sp46) 39 2] ++ L')) (by kernel_rfl) (by kernel_rfl) (NoP.then (NoP.then NoP.base)) ⟨_, H51⟩ ?_
  revert H51
  generalize World.drew w = w50
  intro H51
  replace H51 : Own w D w50 [rowz A2 1 (List.flatMap OwnerD.cells ([x2])) 39 2, row A0 c0 c0 ((List.flatMap OwnerD.cells l0) ++ sp46) 39 2] := H51
  refine GX.take (v := .slice A0 (List.length (List.take (Int.toNat p1) l0 ++ (x2 :: List.drop (Int.toNat p1) l0))) c0) (rs := [[4]]) 0 rfl (by kernel_rfl) (fun _ _ => Yl.move rfl) (GX.take (v := .int .i64 ((Int.toNat p1 : Nat) : Int)) (rs := [[4, 3]]) 1 rfl (by kernel_rfl) (fun _ _ => Yl.int (e := p1) (Yl.move rfl) (by omega)) (GX.take (v := .int .i64 1) (rs := [[4, 3]]) 2 rfl (by kernel_rfl) (fun _ _ => Yl.move rfl) (GX.take (v := .int .i64 ((Int.toNat p1 + 1 : Nat) : Int)) (rs := [[4]]) 3 rfl (by kernel_rfl) (fun _ _ => Yl.int (e := IntKind.i64.wrap (((Int.toNat p1 : Nat) : Int) + 1)) (Yl.kern rfl rfl (fun _ => by kernel_rfl)) (by rw [IntWalk.i64_in _ (by omega)]; omega)) (GX.take (v := .slice (cutA A0 (Int.toNat p1 + 1) 2 c0) ((List.length (List.take (Int.toNat p1) l0 ++ (x2 :: List.drop (Int.toNat p1) l0))) - (Int.toNat p1 + 1)) (c0 - (Int.toNat p1 + 1))) (rs := [[]]) 4 rfl (by kernel_rfl) (fun _ _ => Yl.cutFrom (El22) rfl rfl (by omega)) (GX.take (v := .slice A0 (List.length (List.take (Int.toNat p1) l0 ++ (x2 :: List.drop (Int.toNat p1) l0))) c0) (rs := [[7]]) 5 rfl (by kernel_rfl) (fun _ _ => Yl.move rfl) (GX.take (v := .int .i64 ((Int.toNat p1 : Nat) : Int)) (rs := [[7]]) 6 rfl (by kernel_rfl) (fun _ _ => Yl.int (e := p1) (Yl.move rfl) (by omega)) (GX.take (v := .slice (cutA A0 (Int.toNat p1) 2 c0) ((List.length (List.take (Int.toNat p1) l0 ++ (x2 :: List.drop (Int.toNat p1) l0))) - (Int.toNat p1)) (c0 - (Int.toNat p1))) (rs := [[]]) 7 rfl (by kernel_rfl) (fun _ _ => Yl.cutFrom (El22) rfl rfl (by omega)) ?_)))))))
  have H52 : Own w D w50 [row A0 c0 c0 ((List.flatMap OwnerD.cells l0) ++ sp46) 39 2, rowz A2 1 (List.flatMap OwnerD.cells ([x2])) 39 2] := H51.pick [1, 0] (by decide) rfl
  refine GX.do 8 rfl (by kernel_rfl) (Do.copyT (lo := Int.toNat p1 + 1) (k := List.length l0 - Int.toNat p1) (El22) H52 rfl (fun _ => cutA_pos ((H52.rds (i := 0) rfl).isSome (by omega)) (by omega)) (by omega) rfl (Rds.cut (lo := Int.toNat p1) (hi := List.length (List.take (Int.toNat p1) l0 ++ (x2 :: List.drop (Int.toNat p1) l0))) (H52.rds (i := 0) rfl) (by omega) (by omega) (by omega)) (by omega) (fun u hu => flat_one OwnerD.one _ u (by rw [ins_news OwnerD.len (by omega) rfl (by omega)] at hu; exact hu)) rfl ?_)
  intro w53 H54
  replace H54 : Own w D w53 [row A0 c0 c0 (put ((List.flatMap OwnerD.cells l0) ++ sp46) ((Int.toNat p1 + 1) * 2) (List.take ((List.length l0 - Int.toNat p1) * 2) (List.take (((List.length (List.take (Int.toNat p1) l0 ++ (x2 :: List.drop (Int.toNat p1) l0))) - (Int.toNat p1)) * 2) (List.drop ((Int.toNat p1) * 2) ((List.flatMap OwnerD.cells l0) ++ sp46))))) 39 2, rowz A2 1 (List.flatMap OwnerD.cells ([x2])) 39 2] := H54
  refine ⟨.inl (by kernel_rfl), ?_⟩
  refine GX.done (by kernel_rfl) (Fin.then (Wp.seq (Wp.region (Mv rfl rfl (WL.val (v := .int .i64 ((Int.toNat p1 : Nat) : Int)) rfl (Yl.int (e := p1) (Yl.move rfl) (by omega)) (WL.val (v := .slice (cutA A0 (Int.toNat p1) 2 c0) ((List.length (List.take (Int.toNat p1) l0 ++ (x2 :: List.drop (Int.toNat p1) l0))) - (Int.toNat p1)) (c0 - (Int.toNat p1))) rfl (Yl.cutFrom (El22) rfl rfl (by omega)) (Mv rfl rfl ?_)))))))
  refine WL.do rfl (Do.copyT (lo := Int.toNat p1) (k := 1) (El22) H54 rfl (fun _ => cutA_pos ((H54.rds (i := 0) rfl).isSome (by omega)) (by omega)) (by omega) rfl (own_rd H54 (i := 1) rfl rowz_rds) (by omega) (fun u hu => flat_one OwnerD.one _ u (List.mem_of_mem_take hu)) rfl ?_)
  intro w55 H56
  replace H56 : Own w D w55 [row A0 c0 c0 (put (put ((List.flatMap OwnerD.cells l0) ++ sp46) ((Int.toNat p1 + 1) * 2) (List.take ((List.length l0 - Int.toNat p1) * 2) (List.take (((List.length (List.take (Int.toNat p1) l0 ++ (x2 :: List.drop (Int.toNat p1) l0))) - (Int.toNat p1)) * 2) (List.drop ((Int.toNat p1) * 2) ((List.flatMap OwnerD.cells l0) ++ sp46))))) ((Int.toNat p1) * 2) (List.take (1 * 2) (List.flatMap OwnerD.cells [x2]))) 39 2, rowz A2 1 (List.flatMap OwnerD.cells ([x2])) 39 2] := H56
  refine WL.nil (Fin.then (Wp.seq (Wp.region (Mv rfl rfl (As rfl rfl (WL.nil (Fin.then (Wp.ret (Fin.thenR (Fin.res (res1 rfl rfl) ?_))))))))))
  have H57 : Own w D w55 [row A0 (List.length (List.take (Int.toNat p1) l0 ++ (x2 :: List.drop (Int.toNat p1) l0))) c0 (List.flatMap OwnerD.cells (List.take (Int.toNat p1) l0 ++ (x2 :: List.drop (Int.toNat p1) l0))) 39 2, rowz A2 1 (List.flatMap OwnerD.cells ([x2])) 39 2] := H56.rowPart (by omega) (ins_room (l := l0) (m := (List.length (List.take (Int.toNat p1) l0 ++ (x2 :: List.drop (Int.toNat p1) l0))) - Int.toNat p1) (k2 := List.length l0 - Int.toNat p1) OwnerD.len (by omega) (by rw [hsp47]; exact Nat.le_mul_of_pos_left 2 (by omega)) rfl rfl (by omega) (by omega))
  have H58 : Own w D w55 [row A0 (List.length (List.take (Int.toNat p1) l0 ++ (x2 :: List.drop (Int.toNat p1) l0))) c0 (List.flatMap OwnerD.cells (List.take (Int.toNat p1) l0 ++ (x2 :: List.drop (Int.toNat p1) l0))) 39 2] := H57.pick [0] (by decide) rfl
  have e : slices_Insert_api_Owner_api_Owner l0 p1 x2 = (List.take (Int.toNat p1) l0 ++ (x2 :: List.drop (Int.toNat p1) l0)) := if_neg h21
  obtain rfl := e.symm.trans hr
  exact ⟨A0, c0, rfl, H58, (by omega)⟩

def owner_Split (l0 : List OwnerD) (p1 : List UInt8) : (List OwnerD) × Int :=
  bnd (owner_Find l0 p1) fun yr26 => if yr26.2 = 0 then bnd (List.getD l0 (Int.toNat yr26.1) default) fun yx36 => if yx36.xLo = p1 then ([], 6) else if ((List.length l0 : Nat) : Int) = 6 then ([], 3) else bnd (slices_Insert_api_Owner_api_Owner l0 (yr26.1 + 1) (OwnerD.mk p1 yx36.xShard)) fun yr95 => (yr95, 0) else ([], yr26.2)

set_option maxRecDepth 100000 in
theorem owner_Split_ok (w : World) (D : Nat → Prop) (A0 : Option Addr) (n0 c0 : Nat) (l0 : List OwnerD) (p1 : List UInt8) (r0 : List OwnerD) (r1 : Int) (H : Own w D w []) (hx0 : Ro w D fun w' => Rds w' 2 A0 n0 (List.flatMap OwnerD.cells l0)) (hn0 : n0 = List.length l0) (hl0 : List.length l0 * 24 ≤ 211106232532992) (hr : owner_Split l0 p1 = (r0, r1)) :
    Calls Try.prog 18 #[.slice A0 n0 c0, .string ⟨List.toArray p1⟩] w (Ret fun v w' => ∃ (B0 : Option Addr) (b0 : Nat), v = .tuple #[.slice B0 (List.length r0) b0, .int .i64 r1] ∧ Own w D w' [row B0 (List.length r0) b0 (List.flatMap OwnerD.cells r0) 39 2] ∧ (List.length r0 ≤ 6) ∧ (¬ (r1 = 0) ∨ owner_Check l0 = 0)) := by
  subst hn0
  refine Calls.body (args := [.slice A0 (List.length l0) c0, .string ⟨List.toArray p1⟩]) Try.func18 rfl rfl rfl ?_
  show Wp _ _ _ [(0, .slice A0 (List.length l0) c0), (1, .string ⟨List.toArray p1⟩)] _ _
  refine Wp.seq (Wp.region (As rfl rfl (As rfl rfl (WL.nil (Fin.then (Wp.seq (Wp.region (Mv rfl rfl (Mv rfl rfl ?_)))))))))
  obtain ⟨⟨r26, r27⟩, hr28⟩ : ∃ q : Int × Int, owner_Find l0 p1 = q := ⟨_, rfl⟩
  obtain ⟨D21, HP22, ro23, bk24, rr25⟩ := Own.enter0 H
  refine WL.do rfl (Do.call Try.call10 rfl (owner_Find_ok _ _ A0 (List.length l0) c0 l0 p1 r26 r27 HP22 (ro23 _ hx0) rfl (by omega) hr28) ?_)
  rintro _ w29 ⟨rfl, HQ30, hk32, hk33, hk34⟩
  have H31 : Own w D w29 [] := bk24 _ _ HQ30
  replace hk32 : ¬ (r27 = 0) ∨ (0 ≤ r26 ∧ r26 < ((List.length l0 : Nat) : Int) ∧ List.length l0 ≤ 6) := hk32
  replace hk33 : ¬ (owner_Check l0 = 0) ∨ List.length p1 < 1 ∨ List.length p1 > 12 ∨ (0 ≤ r26 ∧ r26 < ((List.length l0 : Nat) : Int)) := hk33
  replace hk34 : ¬ (r27 = 0) ∨ owner_Check l0 = 0 := hk34
  refine Mv rfl rfl (Kn (v := .int .i64 r26) rfl rfl rfl (fun _ => by kernel_rfl) (Kn (v := .int .i64 r27) rfl rfl rfl (fun _ => by kernel_rfl) (As rfl rfl (As rfl rfl (WL.nil (Fin.then (Wp.seq (Wp.seq (Wp.region (Mv rfl rfl (WL.val (v := .bool (decide (¬ (r27 = 0)))) rfl (Yl.bool (e := !(decide (r27 = 0))) (Yl.kern rfl rfl (fun _ => by kernel_rfl)) decide_not.symm) (WL.nil (Fin.then ?_)))))))))))))
  by_cases h35 : r27 = 0
  refine Wp.cond0 rfl (decide_eq_false (not_not_intro h35)) (Wp.skip (Fin.then (Wp.seq (Wp.seq (Wp.region (Mv rfl rfl (WL.val (v := .int .i64 ((Int.toNat r26 : Nat) : Int)) rfl (Yl.int (e := r26) (Yl.move rfl) (by omega)) ?_)))))))
  obtain ⟨x36, hx37⟩ := rds_at (ls := l0) (i := Int.toNat r26) OwnerD.len (by decide) (H31.ro hx0) (by first | omega | (simp; done) | (simp; omega))
  refine WL.val (v := .pointer (some ⟨ab A0, ao A0 + (Int.toNat r26) * 2, none⟩)) rfl (Yl.indexAddr (El22) rfl rfl ((H31.ro hx0).addr (i := Int.toNat r26) (by omega)) (by omega)) (Kn (v := .pointer (some ⟨ab A0, ao A0 + (Int.toNat r26) * 2, none⟩)) rfl rfl rfl (fun _ => by kernel_rfl) (WL.val (v := .string ⟨List.toArray x36.xLo⟩) rfl (Yl.load rfl (Lds.one Try.isAgg9 (((H31.ro hx0).elem OwnerD.len hx37 (by decide)).at_ (k := 0) rfl))) (Mv rfl rfl (WL.val (v := .bool (decide (x36.xLo = p1))) rfl (Yl.strEq rfl rfl) (WL.nil (Fin.then ?_))))))
  by_cases h38 : x36.xLo = p1
  refine Wp.cond1 rfl (decide_eq_true h38) (Wp.seq (Wp.region (As rfl rfl (As rfl rfl (WL.nil (Fin.then (Wp.ret (Fin.thenR (Fin.res (res2 rfl rfl rfl) ?_)))))))))
  have H39 : Own w D w29 [row none 0 0 (List.flatMap OwnerD.cells ([])) 39 2] := H31.free (row_nil 39 2)
  have H40 : Own w D w29 [row none 0 0 (List.flatMap OwnerD.cells ([])) 39 2] := H39.pick [0] (by decide) rfl
  have e : owner_Split l0 p1 = ([], 6) := Eq.trans (bnd_of hr28) (Eq.trans (if_pos h35) (Eq.trans (bnd_of (getD_of hx37)) (if_pos h38)))
  obtain ⟨rfl, rfl⟩ := pj2 (e.symm.trans hr)
  exact ⟨none, 0, rfl, H40, (by first | omega | exact Nat.zero_le _ | (simp only [List.length_set]; omega)), (by omega)⟩
  refine Wp.cond0 rfl (decide_eq_false h38) (Wp.skip (Fin.then (Wp.seq (Wp.seq (Wp.region (Mv rfl rfl (Kn (v := .int .i64 ((List.length l0 : Nat) : Int)) rfl rfl rfl (fun _ => by kernel_rfl) (Kn (v := .bool (decide (((List.length l0 : Nat) : Int) = 6))) rfl rfl rfl (fun _ => by kernel_rfl) (WL.nil (Fin.then ?_))))))))))
  by_cases h41 : ((List.length l0 : Nat) : Int) = 6
  refine Wp.cond1 rfl (decide_eq_true h41) (Wp.seq (Wp.region (As rfl rfl (As rfl rfl (WL.nil (Fin.then (Wp.ret (Fin.thenR (Fin.res (res2 rfl rfl rfl) ?_)))))))))
  have H42 : Own w D w29 [row none 0 0 (List.flatMap OwnerD.cells ([])) 39 2] := H31.free (row_nil 39 2)
  have H43 : Own w D w29 [row none 0 0 (List.flatMap OwnerD.cells ([])) 39 2] := H42.pick [0] (by decide) rfl
  have e : owner_Split l0 p1 = ([], 3) := Eq.trans (bnd_of hr28) (Eq.trans (if_pos h35) (Eq.trans (bnd_of (getD_of hx37)) (Eq.trans (if_neg h38) (if_pos h41))))
  obtain ⟨rfl, rfl⟩ := pj2 (e.symm.trans hr)
  exact ⟨none, 0, rfl, H43, (by first | omega | exact Nat.zero_le _ | (simp only [List.length_set]; omega)), (by omega)⟩
  refine Wp.cond0 rfl (decide_eq_false h41) (Wp.skip (Fin.then (Wp.seq ?_)))
  have H45 := H31.drew
  refine Wp.drawnX [] (fun W => ∃ L', Own w D W ([] ++ L')) (by kernel_rfl) (by kernel_rfl) (NoP.then NoP.base) ⟨_, H45⟩ ?_
  revert H45
  generalize World.drew w29 = w44
  intro H45
  replace H45 : Own w D w44 [] := H45
  refine GX.take (v := .slice A0 (List.length l0) c0) (rs := []) 0 rfl (by kernel_rfl) (fun _ _ => Yl.move rfl) (GX.take (v := .int .i64 r26) (rs := []) 2 rfl (by kernel_rfl) (fun _ _ => Yl.move rfl) (GX.take (v := .int .i64 (r26 + 1)) (rs := []) 3 rfl (by kernel_rfl) (fun _ _ => Yl.int (e := IntKind.i64.wrap (r26 + 1)) (Yl.kern rfl rfl (fun _ => by kernel_rfl)) (by rw [IntWalk.i64_in _ (by omega)])) (GX.take (v := .string ⟨List.toArray p1⟩) (rs := []) 4 rfl (by kernel_rfl) (fun _ _ => Yl.move rfl) (GX.take (v := .slice A0 (List.length l0) c0) (rs := []) 5 rfl (by kernel_rfl) (fun _ _ => Yl.move rfl) (GX.take (v := .int .i64 ((Int.toNat r26 : Nat) : Int)) (rs := []) 6 rfl (by kernel_rfl) (fun _ _ => Yl.int (e := r26) (Yl.move rfl) (by omega)) (GX.take (v := .pointer (some ⟨ab A0, ao A0 + (Int.toNat r26) * 2, none⟩)) (rs := []) 7 rfl (by kernel_rfl) (fun _ ⟨_, H9⟩ => Yl.indexAddr (El22) rfl rfl ((H9.ro hx0).addr (i := Int.toNat r26) (by omega)) (by omega)) (GX.take (v := .pointer (some ⟨ab A0, ao A0 + (Int.toNat r26) * 2 + 1, none⟩)) (rs := []) 8 rfl (by kernel_rfl) (fun _ _ => Yl.kern rfl rfl (fun _ => by kernel_rfl)) (GX.take (v := .int .i64 x36.xShard) (rs := []) 9 rfl (by kernel_rfl) (fun _ ⟨_, H9⟩ => Yl.load rfl (Lds.one Try.isAgg3 (((H9.ro hx0).elem OwnerD.len hx37 (by decide)).at_ (k := 1) rfl))) (GX.take (v := .agg #[.string ⟨List.toArray p1⟩, .int .i64 x36.xShard]) (rs := []) 10 rfl (by kernel_rfl) (fun _ _ => Yl.kern rfl rfl (fun _ => by kernel_rfl)) ?_)))))))))
  refine GX.any2 1 11 (by kernel_rfl) ?_ ?_
  obtain ⟨D46, HP47, ro48, bk49, rr50⟩ := Own.enter0 H45
  refine GY.do 1 rfl (by kernel_rfl) (Do.call Try.call43 rfl (slices_Clone_api_Owner_api_Owner_ok _ _ A0 (List.length l0) c0 l0 l0 HP47 (ro48 _ hx0) rfl (by omega) rfl) ?_)
  rintro _ w51 ⟨A54, c55, rfl, HQ52⟩
  have H53 : Own w D w51 [row A54 (List.length l0) c55 (List.flatMap OwnerD.cells l0) 39 2] := bk49 _ _ HQ52
  have hb56 := H53.rowC (i := 0) rfl
  refine ⟨.inr ⟨_, H53⟩, ?_⟩
  refine GX.do 11 rfl (by kernel_rfl) (Do.newRowZ (cs := [.string ⟨List.toArray p1⟩, .int .i64 x36.xShard]) (t := 39) (sz := 2) (m := 1) H53 rfl rfl (fun _ => by kernel_rfl) rfl ?_)
  intro A57 w58 H59
  replace H59 : Own w D w58 [rowz A57 1 (List.flatMap OwnerD.cells ([(OwnerD.mk p1 x36.xShard)])) 39 2, row A54 (List.length l0) c55 (List.flatMap OwnerD.cells l0) 39 2] := H59
  refine ⟨.inr ⟨_, H59⟩, ?_⟩
  have H60 : Own w D w58 [row A54 (List.length l0) c55 (List.flatMap OwnerD.cells l0) 39 2, rowz A57 1 (List.flatMap OwnerD.cells ([(OwnerD.mk p1 x36.xShard)])) 39 2] := H59.pick [1, 0] (by decide) rfl
  obtain ⟨r66, hr67⟩ : ∃ q, slices_Insert_api_Owner_api_Owner l0 (r26 + 1) (OwnerD.mk p1 x36.xShard) = q := ⟨_, rfl⟩
  obtain ⟨D61, HP62, ro63, bk64, rr65⟩ := Own.enter2 H60
  refine GX.do 12 rfl (by kernel_rfl) (Do.call Try.call42 rfl (slices_Insert_api_Owner_api_Owner_ok _ _ A54 (List.length l0) c55 l0 (r26 + 1) A57 (OwnerD.mk p1 x36.xShard) r66 HP62 rfl (by omega) (by omega) hr67) ?_)
  rintro _ w68 ⟨A71, c72, rfl, HQ69, hk73⟩
  have H70 : Own w D w68 [row A71 (List.length r66) c72 (List.flatMap OwnerD.cells r66) 39 2] := bk64 _ _ HQ69
  have hb74 := H70.rowC (i := 0) rfl
  replace hk73 : List.length r66 = List.length l0 + 1 := hk73
  refine ⟨.inr ⟨_, H70⟩, ?_⟩
  refine GX.take (v := .slice A71 (List.length r66) c72) (rs := []) 13 rfl (by kernel_rfl) (fun _ _ => Yl.assign rfl) (GX.take (v := .int .i64 0) (rs := []) 14 rfl (by kernel_rfl) (fun _ _ => Yl.assign rfl) (GX.done (by kernel_rfl) (Fin.then (Wp.ret (Fin.res (res2 rfl rfl rfl) ?_)))))
  have H75 : Own w D w68 [row A71 (List.length r66) c72 (List.flatMap OwnerD.cells r66) 39 2] := H70.pick [0] (by decide) rfl
  have e : owner_Split l0 p1 = (r66, 0) := Eq.trans (bnd_of hr28) (Eq.trans (if_pos h35) (Eq.trans (bnd_of (getD_of hx37)) (Eq.trans (if_neg h38) (Eq.trans (if_neg h41) (bnd_of hr67)))))
  obtain ⟨rfl, rfl⟩ := pj2 (e.symm.trans hr)
  exact ⟨A71, c72, rfl, H75, (by first | omega | exact Nat.zero_le _ | (simp only [List.length_set]; omega)), (by omega)⟩
  refine GY.do 11 rfl (by kernel_rfl) (Do.newRowZ (cs := [.string ⟨List.toArray p1⟩, .int .i64 x36.xShard]) (t := 39) (sz := 2) (m := 1) H45 rfl rfl (fun _ => by kernel_rfl) rfl ?_)
  intro A76 w77 H78
  replace H78 : Own w D w77 [rowz A76 1 (List.flatMap OwnerD.cells ([(OwnerD.mk p1 x36.xShard)])) 39 2] := H78
  refine ⟨.inr ⟨_, H78⟩, ?_⟩
  obtain ⟨D79, HP80, ro81, bk82, rr83⟩ := Own.enter0 H78
  refine GX.do 1 rfl (by kernel_rfl) (Do.call Try.call43 rfl (slices_Clone_api_Owner_api_Owner_ok _ _ A0 (List.length l0) c0 l0 l0 HP80 (ro81 _ hx0) rfl (by omega) rfl) ?_)
  rintro _ w84 ⟨A87, c88, rfl, HQ85⟩
  have H86 : Own w D w84 [row A87 (List.length l0) c88 (List.flatMap OwnerD.cells l0) 39 2, rowz A76 1 (List.flatMap OwnerD.cells ([(OwnerD.mk p1 x36.xShard)])) 39 2] := bk82 _ _ HQ85
  have hb89 := H86.rowC (i := 0) rfl
  refine ⟨.inr ⟨_, H86⟩, ?_⟩
  obtain ⟨r95, hr96⟩ : ∃ q, slices_Insert_api_Owner_api_Owner l0 (r26 + 1) (OwnerD.mk p1 x36.xShard) = q := ⟨_, rfl⟩
  obtain ⟨D90, HP91, ro92, bk93, rr94⟩ := Own.enter2 H86
  refine GX.do 12 rfl (by kernel_rfl) (Do.call Try.call42 rfl (slices_Insert_api_Owner_api_Owner_ok _ _ A87 (List.length l0) c88 l0 (r26 + 1) A76 (OwnerD.mk p1 x36.xShard) r95 HP91 rfl (by omega) (by omega) hr96) ?_)
  rintro _ w97 ⟨A100, c101, rfl, HQ98, hk102⟩
  have H99 : Own w D w97 [row A100 (List.length r95) c101 (List.flatMap OwnerD.cells r95) 39 2] := bk93 _ _ HQ98
  have hb103 := H99.rowC (i := 0) rfl
  replace hk102 : List.length r95 = List.length l0 + 1 := hk102
  refine ⟨.inr ⟨_, H99⟩, ?_⟩
  refine GX.take (v := .slice A100 (List.length r95) c101) (rs := []) 13 rfl (by kernel_rfl) (fun _ _ => Yl.assign rfl) (GX.take (v := .int .i64 0) (rs := []) 14 rfl (by kernel_rfl) (fun _ _ => Yl.assign rfl) (GX.done (by kernel_rfl) (Fin.then (Wp.ret (Fin.res (res2 rfl rfl rfl) ?_)))))
  have H104 : Own w D w97 [row A100 (List.length r95) c101 (List.flatMap OwnerD.cells r95) 39 2] := H99.pick [0] (by decide) rfl
  have e : owner_Split l0 p1 = (r95, 0) := Eq.trans (bnd_of hr28) (Eq.trans (if_pos h35) (Eq.trans (bnd_of (getD_of hx37)) (Eq.trans (if_neg h38) (Eq.trans (if_neg h41) (bnd_of hr96)))))
  obtain ⟨rfl, rfl⟩ := pj2 (e.symm.trans hr)
  exact ⟨A100, c101, rfl, H104, (by first | omega | exact Nat.zero_le _ | (simp only [List.length_set]; omega)), (by omega)⟩
  refine Wp.cond1 rfl (decide_eq_true h35) (Wp.seq (Wp.region (Mv rfl rfl (As rfl rfl (As rfl rfl (WL.nil (Fin.then (Wp.ret (Fin.thenR (Fin.res (res2 rfl rfl rfl) ?_))))))))))
  have H105 : Own w D w29 [row none 0 0 (List.flatMap OwnerD.cells ([])) 39 2] := H31.free (row_nil 39 2)
  have H106 : Own w D w29 [row none 0 0 (List.flatMap OwnerD.cells ([])) 39 2] := H105.pick [0] (by decide) rfl
  have e : owner_Split l0 p1 = ([], r27) := Eq.trans (bnd_of hr28) (if_neg h35)
  obtain ⟨rfl, rfl⟩ := pj2 (e.symm.trans hr)
  exact ⟨none, 0, rfl, H106, (by first | omega | exact Nat.zero_le _ | (simp only [List.length_set]; omega)), (by omega)⟩

def owner_Give (l0 : List OwnerD) (p1 : Int) (p2 : Int) : (List OwnerD) × Int :=
  bnd (owner_RangeOf l0 p1) fun yr26 => if yr26.2 = 0 then bnd (owner_isShard p2) fun yr44 => if yr44 = true then bnd (List.getD l0 (Int.toNat p1) default) fun yx61 => ((List.set l0 (Int.toNat p1) (OwnerD.mk yx61.xLo p2)), 0) else ([], 1) else ([], yr26.2)

set_option maxRecDepth 100000 in
theorem owner_Give_ok (w : World) (D : Nat → Prop) (A0 : Option Addr) (n0 c0 : Nat) (l0 : List OwnerD) (p1 : Int) (p2 : Int) (r0 : List OwnerD) (r1 : Int) (H : Own w D w []) (hx0 : Ro w D fun w' => Rds w' 2 A0 n0 (List.flatMap OwnerD.cells l0)) (hn0 : n0 = List.length l0) (hl0 : List.length l0 * 24 ≤ 211106232532992) (hr : owner_Give l0 p1 p2 = (r0, r1)) :
    Calls Try.prog 20 #[.slice A0 n0 c0, .int .i64 p1, .int .i64 p2] w (Ret fun v w' => ∃ (B0 : Option Addr) (b0 : Nat), v = .tuple #[.slice B0 (List.length r0) b0, .int .i64 r1] ∧ Own w D w' [row B0 (List.length r0) b0 (List.flatMap OwnerD.cells r0) 39 2] ∧ (List.length r0 ≤ 6)) := by
  subst hn0
  refine Calls.body (args := [.slice A0 (List.length l0) c0, .int .i64 p1, .int .i64 p2]) Try.func20 rfl rfl rfl ?_
  show Wp _ _ _ [(0, .slice A0 (List.length l0) c0), (1, .int .i64 p1), (2, .int .i64 p2)] _ _
  refine Wp.seq (Wp.region (As rfl rfl (As rfl rfl (WL.nil (Fin.then (Wp.seq (Wp.seq (Wp.region (Mv rfl rfl (Mv rfl rfl ?_))))))))))
  obtain ⟨⟨r26, r27⟩, hr28⟩ : ∃ q : RangeD × Int, owner_RangeOf l0 p1 = q := ⟨_, rfl⟩
  obtain ⟨D21, HP22, ro23, bk24, rr25⟩ := Own.enter0 H
  refine WL.do rfl (Do.call Try.call12 rfl (owner_RangeOf_ok _ _ A0 (List.length l0) c0 l0 p1 r26 r27 HP22 (ro23 _ hx0) rfl (by omega) hr28) ?_)
  rintro _ w29 ⟨rfl, HQ30, hk32⟩
  have H31 : Own w D w29 [] := bk24 _ _ HQ30
  replace hk32 : ¬ (r27 = 0) ∨ (0 ≤ p1 ∧ p1 < ((List.length l0 : Nat) : Int) ∧ List.length l0 ≤ 6) := hk32
  refine Mv rfl rfl (Kn (v := .agg (RangeD.cells r26).toArray) rfl rfl rfl (fun _ => by kernel_rfl) (Kn (v := .int .i64 r27) rfl rfl rfl (fun _ => by kernel_rfl) ?_))
  refine WL.do rfl (Do.newP (cs := [.string ⟨List.toArray ([])⟩, .string ⟨List.toArray ([])⟩]) (t := 24) H31 rfl rfl (fun _ => by kernel_rfl) ?_)
  intro g33 w34 H35
  replace H35 : Own w D w34 [blk g33 [.string ⟨List.toArray ([])⟩, .string ⟨List.toArray ([])⟩] 24] := H35
  refine WL.do0 (Do.store (vs := (RangeD.cells r26)) (o := 0) H35 rfl rfl Try.sizeOf24 rfl rfl rfl rfl ?_)
  intro w36 H37
  replace H37 : Own w D w36 [blk g33 (RangeD.cells r26) 24] := H37
  refine As rfl rfl (WL.nil (Fin.then (Wp.seq (Wp.region (Mv rfl rfl (WL.val (v := .bool (decide (¬ (r27 = 0)))) rfl (Yl.bool (e := !(decide (r27 = 0))) (Yl.kern rfl rfl (fun _ => by kernel_rfl)) decide_not.symm) (WL.nil (Fin.then ?_))))))))
  by_cases h38 : r27 = 0
  refine Wp.cond0 rfl (decide_eq_false (not_not_intro h38)) (Wp.skip (Fin.then (Wp.seq (Wp.seq (Wp.region (Mv rfl rfl ?_))))))
  obtain ⟨r44, hr45⟩ : ∃ q, owner_isShard p2 = q := ⟨_, rfl⟩
  obtain ⟨D39, HP40, ro41, bk42, rr43⟩ := Own.enter0 H37
  refine WL.do rfl (Do.call Try.call38 rfl (owner_isShard_ok _ _ p2 r44 HP40 hr45) ?_)
  rintro _ w46 ⟨rfl, HQ47⟩
  have H48 : Own w D w46 [blk g33 (RangeD.cells r26) 24] := bk42 _ _ HQ47
  refine Kn (v := .bool (!r44)) rfl rfl rfl (fun _ => by kernel_rfl) (WL.nil (Fin.then ?_))
  rcases Bool.eq_false_or_eq_true (r44) with h49 | h49
  refine Wp.cond0 rfl (congrArg not h49) (Wp.skip (Fin.then (Wp.seq (Wp.region (Mv rfl rfl ?_)))))
  obtain ⟨D50, HP51, ro52, bk53, rr54⟩ := Own.enter0 H48
  refine WL.do rfl (Do.call Try.call43 rfl (slices_Clone_api_Owner_api_Owner_ok _ _ A0 (List.length l0) c0 l0 l0 HP51 (ro52 _ hx0) rfl (by omega) rfl) ?_)
  rintro _ w55 ⟨A58, c59, rfl, HQ56⟩
  have H57 : Own w D w55 [row A58 (List.length l0) c59 (List.flatMap OwnerD.cells l0) 39 2, blk g33 (RangeD.cells r26) 24] := bk53 _ _ HQ56
  have hb60 := H57.rowC (i := 0) rfl
  refine As rfl rfl (WL.nil (Fin.then (Wp.seq (Wp.region (Mv rfl rfl (WL.val (v := .int .i64 ((Int.toNat p1 : Nat) : Int)) rfl (Yl.int (e := p1) (Yl.move rfl) (by omega)) (Mv rfl rfl ?_)))))))
  obtain ⟨x61, hx62⟩ := rds_at (ls := l0) (i := Int.toNat p1) OwnerD.len (by decide) (H57.rds (i := 0) rfl) (by first | omega | (simp; done) | (simp; omega))
  refine WL.val (v := .pointer (some ⟨ab A58, ao A58 + (Int.toNat p1) * 2, none⟩)) rfl (Yl.indexAddr (El22) rfl rfl ((H57.rds (i := 0) rfl).addr (i := Int.toNat p1) (by omega)) (by omega)) (Kn (v := .pointer (some ⟨ab A58, ao A58 + (Int.toNat p1) * 2 + 1, none⟩)) rfl rfl rfl (fun _ => by kernel_rfl) ?_)
  refine WL.do0 (Do.storeRow (vs := [.int .i64 p2]) (o := (Int.toNat p1) * 2 + 1) (q := ao A58 + (Int.toNat p1) * 2 + 1) H57 rfl (by omega) rfl Try.sizeOf3 rfl rfl (Nat.le_of_ble_eq_true rfl) (store_fits OwnerD.len hx62 (Nat.le_of_ble_eq_true rfl)) (flat_set (y := (OwnerD.mk x61.xLo p2)) OwnerD.len rfl (Nat.le_of_ble_eq_true rfl) hx62) ?_)
  intro w63 H64
  replace H64 : Own w D w63 [row A58 (List.length l0) c59 (List.flatMap OwnerD.cells (List.set l0 (Int.toNat p1) (OwnerD.mk x61.xLo p2))) 39 2, blk g33 (RangeD.cells r26) 24] := H64
  refine WL.nil (Fin.then (Wp.seq (Wp.region (Mv rfl rfl (As rfl rfl (As rfl rfl (WL.nil (Fin.then (Wp.ret (Fin.res (res2 rfl rfl rfl) ?_))))))))))
  have hn65 : List.length l0 = List.length (List.set l0 (Int.toNat p1) (OwnerD.mk x61.xLo p2)) := by first | omega | (simp only [List.length_set]; done) | (simp only [List.length_set, List.length_append, List.length_cons, List.length_nil, List.length_take, List.length_drop, List.length_replicate]; omega)
  have H66 : Own w D w63 [row A58 (List.length (List.set l0 (Int.toNat p1) (OwnerD.mk x61.xLo p2))) c59 (List.flatMap OwnerD.cells (List.set l0 (Int.toNat p1) (OwnerD.mk x61.xLo p2))) 39 2, blk g33 (RangeD.cells r26) 24] := by rw [← hn65]; exact H64
  have H67 : Own w D w63 [row A58 (List.length (List.set l0 (Int.toNat p1) (OwnerD.mk x61.xLo p2))) c59 (List.flatMap OwnerD.cells (List.set l0 (Int.toNat p1) (OwnerD.mk x61.xLo p2))) 39 2] := H66.pick [0] (by decide) rfl
  have e : owner_Give l0 p1 p2 = ((List.set l0 (Int.toNat p1) (OwnerD.mk x61.xLo p2)), 0) := Eq.trans (bnd_of hr28) (Eq.trans (if_pos h38) (Eq.trans (bnd_of hr45) (Eq.trans (if_pos h49) (bnd_of (getD_of hx62)))))
  obtain ⟨rfl, rfl⟩ := pj2 (e.symm.trans hr)
  exact ⟨A58, c59, (by first | rfl | (rw [← hn65]; done) | (rw [← hn65]; rfl)), H67, (by first | omega | exact Nat.zero_le _ | (simp only [List.length_set]; omega))⟩
  refine Wp.cond1 rfl (congrArg not h49) (Wp.seq (Wp.region (As rfl rfl (As rfl rfl (WL.nil (Fin.then (Wp.ret (Fin.thenR (Fin.res (res2 rfl rfl rfl) ?_)))))))))
  have H68 : Own w D w46 [row none 0 0 (List.flatMap OwnerD.cells ([])) 39 2, blk g33 (RangeD.cells r26) 24] := H48.free (row_nil 39 2)
  have H69 : Own w D w46 [row none 0 0 (List.flatMap OwnerD.cells ([])) 39 2] := H68.pick [0] (by decide) rfl
  have e : owner_Give l0 p1 p2 = ([], 1) := Eq.trans (bnd_of hr28) (Eq.trans (if_pos h38) (Eq.trans (bnd_of hr45) (ifF h49)))
  obtain ⟨rfl, rfl⟩ := pj2 (e.symm.trans hr)
  exact ⟨none, 0, rfl, H69, (by first | omega | exact Nat.zero_le _ | (simp only [List.length_set]; omega))⟩
  refine Wp.cond1 rfl (decide_eq_true h38) (Wp.seq (Wp.region (Mv rfl rfl (As rfl rfl (As rfl rfl (WL.nil (Fin.then (Wp.ret (Fin.thenR (Fin.res (res2 rfl rfl rfl) ?_))))))))))
  have H70 : Own w D w36 [row none 0 0 (List.flatMap OwnerD.cells ([])) 39 2, blk g33 (RangeD.cells r26) 24] := H37.free (row_nil 39 2)
  have H71 : Own w D w36 [row none 0 0 (List.flatMap OwnerD.cells ([])) 39 2] := H70.pick [0] (by decide) rfl
  have e : owner_Give l0 p1 p2 = ([], r27) := Eq.trans (bnd_of hr28) (if_neg h38)
  obtain ⟨rfl, rfl⟩ := pj2 (e.symm.trans hr)
  exact ⟨none, 0, rfl, H71, (by first | omega | exact Nat.zero_le _ | (simp only [List.length_set]; omega))⟩

def span_Check (p0 : RangeD) : Int :=
  if p0.xLo ≠ ([]) then bnd (span_CheckKey p0.xLo) fun yr30 => if yr30 = 0 then if p0.xHi ≠ ([]) then bnd (span_CheckKey p0.xHi) fun yr44 => if yr44 = 0 then if p0.xHi ≤ p0.xLo then 21 else 0 else 21 else 0 else 21 else if p0.xHi ≠ ([]) then bnd (span_CheckKey p0.xHi) fun yr64 => if yr64 = 0 then if p0.xHi ≤ p0.xLo then 21 else 0 else 21 else 0

set_option maxRecDepth 100000 in
theorem span_Check_ok (w : World) (D : Nat → Prop) (p0 : RangeD) (r0 : Int) (H : Own w D w [])  (hr : span_Check p0 = r0) :
    Calls Try.prog 29 #[.agg (RangeD.cells p0).toArray] w (Ret fun v w' => v = .int .i64 r0 ∧ Own w D w' []) := by
  refine Calls.body (args := [.agg (RangeD.cells p0).toArray]) Try.func29 rfl rfl rfl ?_
  show Wp _ _ _ [(0, .agg (RangeD.cells p0).toArray)] _ _
  refine Wp.seq (Wp.region ?_)
  refine WL.do rfl (Do.newP (cs := (RangeD.cells p0)) (t := 24) H rfl rfl (fun _ => by kernel_rfl) ?_)
  intro g21 w22 H23
  replace H23 : Own w D w22 [blk g21 (RangeD.cells p0) 24] := H23
  refine As rfl rfl (WL.nil (Fin.then (Wp.seq (Wp.seq (Wp.region (Kn (v := .pointer (some ⟨g21, 0, none⟩)) rfl rfl rfl (fun _ => by kernel_rfl) (WL.val (v := .string ⟨List.toArray p0.xLo⟩) rfl (Yl.load rfl (Lds.one Try.isAgg9 (Cls.of (H23.cls (i := 0) rfl) rfl))) (WL.val (v := .bool (decide (p0.xLo ≠ ([])))) rfl (Yl.strNe rfl rfl) (Mv rfl rfl ?_)))))))))
  by_cases h24 : p0.xLo ≠ ([])
  refine WL.valG (v := .pointer (some ⟨g21, 0, none⟩)) rfl rfl (decide_eq_true h24) rfl (Yl.kern rfl rfl (fun _ => by kernel_rfl)) (WL.valG (v := .string ⟨List.toArray p0.xLo⟩) rfl rfl (decide_eq_true h24) rfl (Yl.load rfl (Lds.one Try.isAgg9 (Cls.of (H23.cls (i := 0) rfl) rfl))) ?_)
  obtain ⟨r30, hr31⟩ : ∃ q, span_CheckKey p0.xLo = q := ⟨_, rfl⟩
  obtain ⟨D25, HP26, ro27, bk28, rr29⟩ := Own.enter0 H23
  refine WL.doG rfl rfl (decide_eq_true h24) rfl (Do.call Try.call31 rfl (span_CheckKey_ok _ _ p0.xLo r30 HP26 hr31) ?_)
  rintro _ w32 ⟨rfl, HQ33, hk35, hk36⟩
  have H34 : Own w D w32 [blk g21 (RangeD.cells p0) 24] := bk28 _ _ HQ33
  replace hk35 : ¬ (r30 = 0) ∨ (1 ≤ List.length p0.xLo ∧ List.length p0.xLo ≤ 12) := hk35
  replace hk36 : List.length p0.xLo < 1 ∨ List.length p0.xLo > 12 ∨ r30 = 0 := hk36
  refine WL.valG (v := .bool (decide (¬ (r30 = 0)))) rfl rfl (decide_eq_true h24) rfl (Yl.bool (e := !(decide (r30 = 0))) (Yl.kern rfl rfl (fun _ => by kernel_rfl)) decide_not.symm) (WL.val (v := .bool (decide (¬ (r30 = 0)))) rfl (Yl.pickT rfl (decide_eq_true h24) rfl) (WL.nil (Fin.then ?_)))
  by_cases h37 : r30 = 0
  refine Wp.cond0 rfl (decide_eq_false (not_not_intro h37)) (Wp.skip (Fin.then (Wp.seq (Wp.seq (Wp.region (Kn (v := .pointer (some ⟨g21, 1, none⟩)) rfl rfl rfl (fun _ => by kernel_rfl) (WL.val (v := .string ⟨List.toArray p0.xHi⟩) rfl (Yl.load rfl (Lds.one Try.isAgg9 (Cls.of (H34.cls (i := 0) rfl) rfl))) (WL.val (v := .bool (decide (p0.xHi ≠ ([])))) rfl (Yl.strNe rfl rfl) (Mv rfl rfl ?_)))))))))
  by_cases h38 : p0.xHi ≠ ([])
  refine WL.valG (v := .pointer (some ⟨g21, 1, none⟩)) rfl rfl (decide_eq_true h38) rfl (Yl.kern rfl rfl (fun _ => by kernel_rfl)) (WL.valG (v := .string ⟨List.toArray p0.xHi⟩) rfl rfl (decide_eq_true h38) rfl (Yl.load rfl (Lds.one Try.isAgg9 (Cls.of (H34.cls (i := 0) rfl) rfl))) ?_)
  obtain ⟨r44, hr45⟩ : ∃ q, span_CheckKey p0.xHi = q := ⟨_, rfl⟩
  obtain ⟨D39, HP40, ro41, bk42, rr43⟩ := Own.enter0 H34
  refine WL.doG rfl rfl (decide_eq_true h38) rfl (Do.call Try.call31 rfl (span_CheckKey_ok _ _ p0.xHi r44 HP40 hr45) ?_)
  rintro _ w46 ⟨rfl, HQ47, hk49, hk50⟩
  have H48 : Own w D w46 [blk g21 (RangeD.cells p0) 24] := bk42 _ _ HQ47
  replace hk49 : ¬ (r44 = 0) ∨ (1 ≤ List.length p0.xHi ∧ List.length p0.xHi ≤ 12) := hk49
  replace hk50 : List.length p0.xHi < 1 ∨ List.length p0.xHi > 12 ∨ r44 = 0 := hk50
  refine WL.valG (v := .bool (decide (¬ (r44 = 0)))) rfl rfl (decide_eq_true h38) rfl (Yl.bool (e := !(decide (r44 = 0))) (Yl.kern rfl rfl (fun _ => by kernel_rfl)) decide_not.symm) (WL.valG (v := .bool (decide (¬ (r44 = 0)))) rfl rfl (decide_eq_true h38) rfl (Yl.move rfl) ?_)
  by_cases h51 : r44 = 0
  refine WL.valG (v := .pointer (some ⟨g21, 1, none⟩)) rfl rfl (decide_eq_false (not_not_intro h51)) rfl (Yl.kern rfl rfl (fun _ => by kernel_rfl)) (WL.valG (v := .string ⟨List.toArray p0.xHi⟩) rfl rfl (decide_eq_false (not_not_intro h51)) rfl (Yl.load rfl (Lds.one Try.isAgg9 (Cls.of (H48.cls (i := 0) rfl) rfl))) (WL.valG (v := .pointer (some ⟨g21, 0, none⟩)) rfl rfl (decide_eq_false (not_not_intro h51)) rfl (Yl.kern rfl rfl (fun _ => by kernel_rfl)) (WL.valG (v := .string ⟨List.toArray p0.xLo⟩) rfl rfl (decide_eq_false (not_not_intro h51)) rfl (Yl.load rfl (Lds.one Try.isAgg9 (Cls.of (H48.cls (i := 0) rfl) rfl))) (WL.valG (v := .bool (decide (p0.xHi ≤ p0.xLo))) rfl rfl (decide_eq_false (not_not_intro h51)) rfl (Yl.bool (e := Op.bytesLess p0.xHi p0.xLo || decide (p0.xHi = p0.xLo)) (Yl.strLe rfl rfl) (bl_le _ _)) (WL.valG (v := .bool (decide (p0.xHi ≤ p0.xLo))) rfl rfl (decide_eq_true h38) rfl (Yl.pickF rfl (decide_eq_false (not_not_intro h51)) rfl) (WL.val (v := .bool (decide (p0.xHi ≤ p0.xLo))) rfl (Yl.pickT rfl (decide_eq_true h38) rfl) (WL.nil (Fin.then ?_))))))))
  by_cases h52 : p0.xHi ≤ p0.xLo
  refine Wp.cond1 rfl (decide_eq_true h52) (Wp.seq (Wp.region (As rfl rfl (WL.nil (Fin.then (Wp.ret (Fin.thenR (Fin.res (res1 rfl rfl) ?_))))))))
  have H53 : Own w D w46 [] := H48.pick [] (by decide) rfl
  have e : span_Check p0 = 21 := Eq.trans (if_pos h24) (Eq.trans (bnd_of hr31) (Eq.trans (if_pos h37) (Eq.trans (if_pos h38) (Eq.trans (bnd_of hr45) (Eq.trans (if_pos h51) (if_pos h52))))))
  obtain rfl := e.symm.trans hr
  exact ⟨rfl, H53⟩
  refine Wp.cond0 rfl (decide_eq_false h52) (Wp.skip (Fin.then (Wp.seq (Wp.region (As rfl rfl (WL.nil (Fin.then (Wp.ret (Fin.res (res1 rfl rfl) ?_)))))))))
  have H54 : Own w D w46 [] := H48.pick [] (by decide) rfl
  have e : span_Check p0 = 0 := Eq.trans (if_pos h24) (Eq.trans (bnd_of hr31) (Eq.trans (if_pos h37) (Eq.trans (if_pos h38) (Eq.trans (bnd_of hr45) (Eq.trans (if_pos h51) (if_neg h52))))))
  obtain rfl := e.symm.trans hr
  exact ⟨rfl, H54⟩
  refine Sk rfl rfl (decide_eq_true h51) rfl (Sk rfl rfl (decide_eq_true h51) rfl (Sk rfl rfl (decide_eq_true h51) rfl (Sk rfl rfl (decide_eq_true h51) rfl (Sk rfl rfl (decide_eq_true h51) rfl (WL.valG (v := .bool true) rfl rfl (decide_eq_true h38) rfl (Yl.pickT rfl (decide_eq_true h51) rfl) (WL.val (v := .bool true) rfl (Yl.pickT rfl (decide_eq_true h38) rfl) (WL.nil (Fin.then (Wp.cond1 rfl rfl (Wp.seq (Wp.region (As rfl rfl (WL.nil (Fin.then (Wp.ret (Fin.thenR (Fin.res (res1 rfl rfl) ?_)))))))))))))))))
  have H55 : Own w D w46 [] := H48.pick [] (by decide) rfl
  have e : span_Check p0 = 21 := Eq.trans (if_pos h24) (Eq.trans (bnd_of hr31) (Eq.trans (if_pos h37) (Eq.trans (if_pos h38) (Eq.trans (bnd_of hr45) (if_neg h51)))))
  obtain rfl := e.symm.trans hr
  exact ⟨rfl, H55⟩
  refine Sk rfl rfl (decide_eq_false h38) rfl (Sk rfl rfl (decide_eq_false h38) rfl (Sk rfl rfl (decide_eq_false h38) rfl (Sk rfl rfl (decide_eq_false h38) rfl (Sk rfl rfl (decide_eq_false h38) rfl (WL.skipU rfl rfl rfl (WL.skipU rfl rfl rfl (WL.skipU rfl rfl rfl (WL.skipU rfl rfl rfl (WL.skipU rfl rfl rfl (Sk rfl rfl (decide_eq_false h38) rfl (WL.val (v := .bool false) rfl (Yl.pickF rfl (decide_eq_false h38) rfl) (WL.nil (Fin.then (Wp.cond0 rfl rfl (Wp.skip (Fin.then (Wp.seq (Wp.region (As rfl rfl (WL.nil (Fin.then (Wp.ret (Fin.res (res1 rfl rfl) ?_)))))))))))))))))))))))
  have H56 : Own w D w32 [] := H34.pick [] (by decide) rfl
  have e : span_Check p0 = 0 := Eq.trans (if_pos h24) (Eq.trans (bnd_of hr31) (Eq.trans (if_pos h37) (if_neg h38)))
  obtain rfl := e.symm.trans hr
  exact ⟨rfl, H56⟩
  refine Wp.cond1 rfl (decide_eq_true h37) (Wp.seq (Wp.region (As rfl rfl (WL.nil (Fin.then (Wp.ret (Fin.thenR (Fin.res (res1 rfl rfl) ?_))))))))
  have H57 : Own w D w32 [] := H34.pick [] (by decide) rfl
  have e : span_Check p0 = 21 := Eq.trans (if_pos h24) (Eq.trans (bnd_of hr31) (if_neg h37))
  obtain rfl := e.symm.trans hr
  exact ⟨rfl, H57⟩
  refine Sk rfl rfl (decide_eq_false h24) rfl (Sk rfl rfl (decide_eq_false h24) rfl (Sk rfl rfl (decide_eq_false h24) rfl (Sk rfl rfl (decide_eq_false h24) rfl (WL.val (v := .bool false) rfl (Yl.pickF rfl (decide_eq_false h24) rfl) (WL.nil (Fin.then (Wp.cond0 rfl rfl (Wp.skip (Fin.then (Wp.seq (Wp.seq (Wp.region (Kn (v := .pointer (some ⟨g21, 1, none⟩)) rfl rfl rfl (fun _ => by kernel_rfl) (WL.val (v := .string ⟨List.toArray p0.xHi⟩) rfl (Yl.load rfl (Lds.one Try.isAgg9 (Cls.of (H23.cls (i := 0) rfl) rfl))) (WL.val (v := .bool (decide (p0.xHi ≠ ([])))) rfl (Yl.strNe rfl rfl) (Mv rfl rfl ?_))))))))))))))))
  by_cases h58 : p0.xHi ≠ ([])
  refine WL.valG (v := .pointer (some ⟨g21, 1, none⟩)) rfl rfl (decide_eq_true h58) rfl (Yl.kern rfl rfl (fun _ => by kernel_rfl)) (WL.valG (v := .string ⟨List.toArray p0.xHi⟩) rfl rfl (decide_eq_true h58) rfl (Yl.load rfl (Lds.one Try.isAgg9 (Cls.of (H23.cls (i := 0) rfl) rfl))) ?_)
  obtain ⟨r64, hr65⟩ : ∃ q, span_CheckKey p0.xHi = q := ⟨_, rfl⟩
  obtain ⟨D59, HP60, ro61, bk62, rr63⟩ := Own.enter0 H23
  refine WL.doG rfl rfl (decide_eq_true h58) rfl (Do.call Try.call31 rfl (span_CheckKey_ok _ _ p0.xHi r64 HP60 hr65) ?_)
  rintro _ w66 ⟨rfl, HQ67, hk69, hk70⟩
  have H68 : Own w D w66 [blk g21 (RangeD.cells p0) 24] := bk62 _ _ HQ67
  replace hk69 : ¬ (r64 = 0) ∨ (1 ≤ List.length p0.xHi ∧ List.length p0.xHi ≤ 12) := hk69
  replace hk70 : List.length p0.xHi < 1 ∨ List.length p0.xHi > 12 ∨ r64 = 0 := hk70
  refine WL.valG (v := .bool (decide (¬ (r64 = 0)))) rfl rfl (decide_eq_true h58) rfl (Yl.bool (e := !(decide (r64 = 0))) (Yl.kern rfl rfl (fun _ => by kernel_rfl)) decide_not.symm) (WL.valG (v := .bool (decide (¬ (r64 = 0)))) rfl rfl (decide_eq_true h58) rfl (Yl.move rfl) ?_)
  by_cases h71 : r64 = 0
  refine WL.valG (v := .pointer (some ⟨g21, 1, none⟩)) rfl rfl (decide_eq_false (not_not_intro h71)) rfl (Yl.kern rfl rfl (fun _ => by kernel_rfl)) (WL.valG (v := .string ⟨List.toArray p0.xHi⟩) rfl rfl (decide_eq_false (not_not_intro h71)) rfl (Yl.load rfl (Lds.one Try.isAgg9 (Cls.of (H68.cls (i := 0) rfl) rfl))) (WL.valG (v := .pointer (some ⟨g21, 0, none⟩)) rfl rfl (decide_eq_false (not_not_intro h71)) rfl (Yl.kern rfl rfl (fun _ => by kernel_rfl)) (WL.valG (v := .string ⟨List.toArray p0.xLo⟩) rfl rfl (decide_eq_false (not_not_intro h71)) rfl (Yl.load rfl (Lds.one Try.isAgg9 (Cls.of (H68.cls (i := 0) rfl) rfl))) (WL.valG (v := .bool (decide (p0.xHi ≤ p0.xLo))) rfl rfl (decide_eq_false (not_not_intro h71)) rfl (Yl.bool (e := Op.bytesLess p0.xHi p0.xLo || decide (p0.xHi = p0.xLo)) (Yl.strLe rfl rfl) (bl_le _ _)) (WL.valG (v := .bool (decide (p0.xHi ≤ p0.xLo))) rfl rfl (decide_eq_true h58) rfl (Yl.pickF rfl (decide_eq_false (not_not_intro h71)) rfl) (WL.val (v := .bool (decide (p0.xHi ≤ p0.xLo))) rfl (Yl.pickT rfl (decide_eq_true h58) rfl) (WL.nil (Fin.then ?_))))))))
  by_cases h72 : p0.xHi ≤ p0.xLo
  refine Wp.cond1 rfl (decide_eq_true h72) (Wp.seq (Wp.region (As rfl rfl (WL.nil (Fin.then (Wp.ret (Fin.thenR (Fin.res (res1 rfl rfl) ?_))))))))
  have H73 : Own w D w66 [] := H68.pick [] (by decide) rfl
  have e : span_Check p0 = 21 := Eq.trans (if_neg h24) (Eq.trans (if_pos h58) (Eq.trans (bnd_of hr65) (Eq.trans (if_pos h71) (if_pos h72))))
  obtain rfl := e.symm.trans hr
  exact ⟨rfl, H73⟩
  refine Wp.cond0 rfl (decide_eq_false h72) (Wp.skip (Fin.then (Wp.seq (Wp.region (As rfl rfl (WL.nil (Fin.then (Wp.ret (Fin.res (res1 rfl rfl) ?_)))))))))
  have H74 : Own w D w66 [] := H68.pick [] (by decide) rfl
  have e : span_Check p0 = 0 := Eq.trans (if_neg h24) (Eq.trans (if_pos h58) (Eq.trans (bnd_of hr65) (Eq.trans (if_pos h71) (if_neg h72))))
  obtain rfl := e.symm.trans hr
  exact ⟨rfl, H74⟩
  refine Sk rfl rfl (decide_eq_true h71) rfl (Sk rfl rfl (decide_eq_true h71) rfl (Sk rfl rfl (decide_eq_true h71) rfl (Sk rfl rfl (decide_eq_true h71) rfl (Sk rfl rfl (decide_eq_true h71) rfl (WL.valG (v := .bool true) rfl rfl (decide_eq_true h58) rfl (Yl.pickT rfl (decide_eq_true h71) rfl) (WL.val (v := .bool true) rfl (Yl.pickT rfl (decide_eq_true h58) rfl) (WL.nil (Fin.then (Wp.cond1 rfl rfl (Wp.seq (Wp.region (As rfl rfl (WL.nil (Fin.then (Wp.ret (Fin.thenR (Fin.res (res1 rfl rfl) ?_)))))))))))))))))
  have H75 : Own w D w66 [] := H68.pick [] (by decide) rfl
  have e : span_Check p0 = 21 := Eq.trans (if_neg h24) (Eq.trans (if_pos h58) (Eq.trans (bnd_of hr65) (if_neg h71)))
  obtain rfl := e.symm.trans hr
  exact ⟨rfl, H75⟩
  refine Sk rfl rfl (decide_eq_false h58) rfl (Sk rfl rfl (decide_eq_false h58) rfl (Sk rfl rfl (decide_eq_false h58) rfl (Sk rfl rfl (decide_eq_false h58) rfl (Sk rfl rfl (decide_eq_false h58) rfl (WL.skipU rfl rfl rfl (WL.skipU rfl rfl rfl (WL.skipU rfl rfl rfl (WL.skipU rfl rfl rfl (WL.skipU rfl rfl rfl (Sk rfl rfl (decide_eq_false h58) rfl (WL.val (v := .bool false) rfl (Yl.pickF rfl (decide_eq_false h58) rfl) (WL.nil (Fin.then (Wp.cond0 rfl rfl (Wp.skip (Fin.then (Wp.seq (Wp.region (As rfl rfl (WL.nil (Fin.then (Wp.ret (Fin.res (res1 rfl rfl) ?_)))))))))))))))))))))))
  have H76 : Own w D w22 [] := H23.pick [] (by decide) rfl
  have e : span_Check p0 = 0 := Eq.trans (if_neg h24) (if_neg h58)
  obtain rfl := e.symm.trans hr
  exact ⟨rfl, H76⟩

def span_lesserHi (p0 : List UInt8) (p1 : List UInt8) : (List UInt8) :=
  if p0 = ([]) then p1 else if p1 ≠ ([]) then if p1 < p0 then p1 else p0 else p0

set_option maxRecDepth 100000 in
theorem span_lesserHi_ok (w : World) (D : Nat → Prop) (p0 : List UInt8) (p1 : List UInt8) (r0 : List UInt8) (H : Own w D w [])  (hr : span_lesserHi p0 p1 = r0) :
    Calls Try.prog 82 #[.string ⟨List.toArray p0⟩, .string ⟨List.toArray p1⟩] w (Ret fun v w' => v = .string ⟨List.toArray r0⟩ ∧ Own w D w' []) := by
  refine Calls.body (args := [.string ⟨List.toArray p0⟩, .string ⟨List.toArray p1⟩]) Try.func82 rfl rfl rfl ?_
  show Wp _ _ _ [(0, .string ⟨List.toArray p0⟩), (1, .string ⟨List.toArray p1⟩)] _ _
  refine Wp.seq (Wp.region (As rfl rfl (WL.nil (Fin.then (Wp.seq (Wp.seq (Wp.region (Mv rfl rfl (WL.val (v := .bool (decide (p0 = ([])))) rfl (Yl.strEq rfl rfl) (Mv rfl rfl ?_))))))))))
  by_cases h21 : p0 = ([])
  refine Sk rfl rfl (decide_eq_true h21) rfl (Sk rfl rfl (decide_eq_true h21) rfl (Sk rfl rfl (decide_eq_true h21) rfl (WL.skipU rfl rfl rfl (WL.skipU rfl rfl rfl (WL.skipU rfl rfl rfl (Sk rfl rfl (decide_eq_true h21) rfl (WL.val (v := .bool true) rfl (Yl.pickT rfl (decide_eq_true h21) rfl) (WL.nil (Fin.then (Wp.cond1 rfl rfl (Wp.seq (Wp.region (Mv rfl rfl (As rfl rfl (WL.nil (Fin.then (Wp.ret (Fin.thenR (Fin.res (res1 rfl rfl) ?_)))))))))))))))))))
  have H22 : Own w D w [] := H.pick [] (by decide) rfl
  have e : span_lesserHi p0 p1 = p1 := if_pos h21
  obtain rfl := e.symm.trans hr
  exact ⟨rfl, H22⟩
  refine WL.valG (v := .string ⟨List.toArray p1⟩) rfl rfl (decide_eq_false h21) rfl (Yl.move rfl) (WL.valG (v := .bool (decide (p1 ≠ ([])))) rfl rfl (decide_eq_false h21) rfl (Yl.strNe rfl rfl) (WL.valG (v := .bool (decide (p1 ≠ ([])))) rfl rfl (decide_eq_false h21) rfl (Yl.move rfl) ?_))
  by_cases h23 : p1 ≠ ([])
  refine WL.valG (v := .string ⟨List.toArray p1⟩) rfl rfl (decide_eq_true h23) rfl (Yl.move rfl) (WL.valG (v := .string ⟨List.toArray p0⟩) rfl rfl (decide_eq_true h23) rfl (Yl.move rfl) (WL.valG (v := .bool (decide (p1 < p0))) rfl rfl (decide_eq_true h23) rfl (Yl.bool (e := Op.bytesLess p1 p0) (Yl.strLt rfl rfl) (bl_lt _ _)) (WL.valG (v := .bool (decide (p1 < p0))) rfl rfl (decide_eq_false h21) rfl (Yl.pickT rfl (decide_eq_true h23) rfl) (WL.val (v := .bool (decide (p1 < p0))) rfl (Yl.pickF rfl (decide_eq_false h21) rfl) (WL.nil (Fin.then ?_))))))
  by_cases h24 : p1 < p0
  refine Wp.cond1 rfl (decide_eq_true h24) (Wp.seq (Wp.region (Mv rfl rfl (As rfl rfl (WL.nil (Fin.then (Wp.ret (Fin.thenR (Fin.res (res1 rfl rfl) ?_)))))))))
  have H25 : Own w D w [] := H.pick [] (by decide) rfl
  have e : span_lesserHi p0 p1 = p1 := Eq.trans (if_neg h21) (Eq.trans (if_pos h23) (if_pos h24))
  obtain rfl := e.symm.trans hr
  exact ⟨rfl, H25⟩
  refine Wp.cond0 rfl (decide_eq_false h24) (Wp.skip (Fin.then (Wp.seq (Wp.region (Mv rfl rfl (As rfl rfl (WL.nil (Fin.then (Wp.ret (Fin.res (res1 rfl rfl) ?_))))))))))
  have H26 : Own w D w [] := H.pick [] (by decide) rfl
  have e : span_lesserHi p0 p1 = p0 := Eq.trans (if_neg h21) (Eq.trans (if_pos h23) (if_neg h24))
  obtain rfl := e.symm.trans hr
  exact ⟨rfl, H26⟩
  refine Sk rfl rfl (decide_eq_false h23) rfl (Sk rfl rfl (decide_eq_false h23) rfl (Sk rfl rfl (decide_eq_false h23) rfl (WL.valG (v := .bool false) rfl rfl (decide_eq_false h21) rfl (Yl.pickF rfl (decide_eq_false h23) rfl) (WL.val (v := .bool false) rfl (Yl.pickF rfl (decide_eq_false h21) rfl) (WL.nil (Fin.then (Wp.cond0 rfl rfl (Wp.skip (Fin.then (Wp.seq (Wp.region (Mv rfl rfl (As rfl rfl (WL.nil (Fin.then (Wp.ret (Fin.res (res1 rfl rfl) ?_)))))))))))))))))
  have H27 : Own w D w [] := H.pick [] (by decide) rfl
  have e : span_lesserHi p0 p1 = p0 := Eq.trans (if_neg h21) (if_neg h23)
  obtain rfl := e.symm.trans hr
  exact ⟨rfl, H27⟩

def span_below (p0 : List UInt8) (p1 : List UInt8) : Bool :=
  if p1 = ([]) then true else decide (p0 < p1)

set_option maxRecDepth 100000 in
theorem span_below_ok (w : World) (D : Nat → Prop) (p0 : List UInt8) (p1 : List UInt8) (r0 : Bool) (H : Own w D w [])  (hr : span_below p0 p1 = r0) :
    Calls Try.prog 55 #[.string ⟨List.toArray p0⟩, .string ⟨List.toArray p1⟩] w (Ret fun v w' => v = .bool r0 ∧ Own w D w' []) := by
  refine Calls.body (args := [.string ⟨List.toArray p0⟩, .string ⟨List.toArray p1⟩]) Try.func55 rfl rfl rfl ?_
  show Wp _ _ _ [(0, .string ⟨List.toArray p0⟩), (1, .string ⟨List.toArray p1⟩)] _ _
  refine Wp.seq (Wp.region (As rfl rfl (WL.nil (Fin.then (Wp.seq (Wp.region (Mv rfl rfl (WL.val (v := .bool (decide (p1 = ([])))) rfl (Yl.strEq rfl rfl) (Mv rfl rfl ?_)))))))))
  by_cases h21 : p1 = ([])
  refine Sk rfl rfl (decide_eq_true h21) rfl (Sk rfl rfl (decide_eq_true h21) rfl (Sk rfl rfl (decide_eq_true h21) rfl (WL.val (v := .bool true) rfl (Yl.pickT rfl (decide_eq_true h21) rfl) (As rfl rfl (WL.nil (Fin.then (Wp.ret (Fin.res (res1 rfl rfl) ?_))))))))
  have H22 : Own w D w [] := H.pick [] (by decide) rfl
  have e : span_below p0 p1 = true := if_pos h21
  obtain rfl := e.symm.trans hr
  exact ⟨rfl, H22⟩
  refine WL.valG (v := .string ⟨List.toArray p0⟩) rfl rfl (decide_eq_false h21) rfl (Yl.move rfl) (WL.valG (v := .string ⟨List.toArray p1⟩) rfl rfl (decide_eq_false h21) rfl (Yl.move rfl) (WL.valG (v := .bool (decide (p0 < p1))) rfl rfl (decide_eq_false h21) rfl (Yl.bool (e := Op.bytesLess p0 p1) (Yl.strLt rfl rfl) (bl_lt _ _)) (WL.val (v := .bool (decide (p0 < p1))) rfl (Yl.pickF rfl (decide_eq_false h21) rfl) (As rfl rfl (WL.nil (Fin.then (Wp.ret (Fin.res (res1 rfl rfl) ?_))))))))
  have H23 : Own w D w [] := H.pick [] (by decide) rfl
  have e : span_below p0 p1 = decide (p0 < p1) := if_neg h21
  obtain rfl := e.symm.trans hr
  exact ⟨rfl, H23⟩

def span_Meet (p0 : RangeD) (p1 : RangeD) : RangeD × Bool :=
  bnd (span_Check p0) fun yr35 => if yr35 = 0 then bnd (span_Check p1) fun yr46 => if yr46 = 0 then bnd (span_lesserHi p0.xHi p1.xHi) fun yr98 => bnd (span_below (maxL p0.xLo p1.xLo) yr98) fun yr112 => if yr112 = true then (RangeD.mk (maxL p0.xLo p1.xLo) yr98, true) else (RangeD.mk ([]) ([]), false) else (RangeD.mk ([]) ([]), false) else (RangeD.mk ([]) ([]), false)

set_option maxRecDepth 100000 in
theorem span_Meet_ok (w : World) (D : Nat → Prop) (p0 : RangeD) (p1 : RangeD) (r0 : RangeD) (r1 : Bool) (H : Own w D w [])  (hr : span_Meet p0 p1 = (r0, r1)) :
    Calls Try.prog 57 #[.agg (RangeD.cells p0).toArray, .agg (RangeD.cells p1).toArray] w (Ret fun v w' => v = .tuple #[.agg (RangeD.cells r0).toArray, .bool r1] ∧ Own w D w' []) := by
  refine Calls.body (args := [.agg (RangeD.cells p0).toArray, .agg (RangeD.cells p1).toArray]) Try.func57 rfl rfl rfl ?_
  show Wp _ _ _ [(0, .agg (RangeD.cells p0).toArray), (1, .agg (RangeD.cells p1).toArray)] _ _
  refine Wp.seq (Wp.region ?_)
  refine WL.do rfl (Do.newP (cs := (RangeD.cells p0)) (t := 24) H rfl rfl (fun _ => by kernel_rfl) ?_)
  intro g21 w22 H23
  replace H23 : Own w D w22 [blk g21 (RangeD.cells p0) 24] := H23
  refine WL.do rfl (Do.newP (cs := (RangeD.cells p1)) (t := 24) H23 rfl rfl (fun _ => by kernel_rfl) ?_)
  intro g24 w25 H26
  replace H26 : Own w D w25 [blk g24 (RangeD.cells p1) 24, blk g21 (RangeD.cells p0) 24] := H26
  refine WL.do rfl (Do.newP (cs := [.string ⟨List.toArray ([])⟩, .string ⟨List.toArray ([])⟩]) (t := 24) H26 rfl rfl (fun _ => by kernel_rfl) ?_)
  intro g27 w28 H29
  replace H29 : Own w D w28 [blk g27 [.string ⟨List.toArray ([])⟩, .string ⟨List.toArray ([])⟩] 24, blk g24 (RangeD.cells p1) 24, blk g21 (RangeD.cells p0) 24] := H29
  refine As rfl rfl (WL.nil (Fin.then (Wp.seq (Wp.seq (Wp.region (WL.val (v := .agg (RangeD.cells p0).toArray) rfl (Yl.load rfl (Lds.agg (cs := (RangeD.cells p0)) Try.isAgg24 Try.sizeOf24 ((H29.cls (i := 2) rfl).lit (k := 0) (m := 2) rfl))) ?_))))))
  obtain ⟨r35, hr36⟩ : ∃ q, span_Check p0 = q := ⟨_, rfl⟩
  obtain ⟨D30, HP31, ro32, bk33, rr34⟩ := Own.enter0 H29
  refine WL.do rfl (Do.call Try.call29 rfl (span_Check_ok _ _ p0 r35 HP31 hr36) ?_)
  rintro _ w37 ⟨rfl, HQ38⟩
  have H39 : Own w D w37 [blk g27 [.string ⟨List.toArray ([])⟩, .string ⟨List.toArray ([])⟩] 24, blk g24 (RangeD.cells p1) 24, blk g21 (RangeD.cells p0) 24] := bk33 _ _ HQ38
  refine WL.val (v := .bool (decide (¬ (r35 = 0)))) rfl (Yl.bool (e := !(decide (r35 = 0))) (Yl.kern rfl rfl (fun _ => by kernel_rfl)) decide_not.symm) (Mv rfl rfl ?_)
  by_cases h40 : r35 = 0
  refine WL.valG (v := .agg (RangeD.cells p1).toArray) rfl rfl (decide_eq_false (not_not_intro h40)) rfl (Yl.load rfl (Lds.agg (cs := (RangeD.cells p1)) Try.isAgg24 Try.sizeOf24 ((H39.cls (i := 1) rfl).lit (k := 0) (m := 2) rfl))) ?_
  obtain ⟨r46, hr47⟩ : ∃ q, span_Check p1 = q := ⟨_, rfl⟩
  obtain ⟨D41, HP42, ro43, bk44, rr45⟩ := Own.enter0 H39
  refine WL.doG rfl rfl (decide_eq_false (not_not_intro h40)) rfl (Do.call Try.call29 rfl (span_Check_ok _ _ p1 r46 HP42 hr47) ?_)
  rintro _ w48 ⟨rfl, HQ49⟩
  have H50 : Own w D w48 [blk g27 [.string ⟨List.toArray ([])⟩, .string ⟨List.toArray ([])⟩] 24, blk g24 (RangeD.cells p1) 24, blk g21 (RangeD.cells p0) 24] := bk44 _ _ HQ49
  refine WL.valG (v := .bool (decide (¬ (r46 = 0)))) rfl rfl (decide_eq_false (not_not_intro h40)) rfl (Yl.bool (e := !(decide (r46 = 0))) (Yl.kern rfl rfl (fun _ => by kernel_rfl)) decide_not.symm) (WL.val (v := .bool (decide (¬ (r46 = 0)))) rfl (Yl.pickF rfl (decide_eq_false (not_not_intro h40)) rfl) (WL.nil (Fin.then ?_)))
  by_cases h51 : r46 = 0
  refine Wp.cond0 rfl (decide_eq_false (not_not_intro h51)) (Wp.skip (Fin.then (Wp.seq ?_)))
  have H53 := H50.drew
  refine Wp.drawnX [] (fun W => ∃ L', Own w D W ([blk g27 [.string ⟨List.toArray ([])⟩, .string ⟨List.toArray ([])⟩] 24, blk g24 (RangeD.cells p1) 24, blk g21 (RangeD.cells p0) 24] ++ L')) (by kernel_rfl) (by kernel_rfl) (NoP.then NoP.base) ⟨_, H53⟩ ?_
  revert H53
  generalize World.drew w48 = w52
  intro H53
  replace H53 : Own w D w52 [blk g27 [.string ⟨List.toArray ([])⟩, .string ⟨List.toArray ([])⟩] 24, blk g24 (RangeD.cells p1) 24, blk g21 (RangeD.cells p0) 24] := H53
  refine GX.take (v := .pointer (some ⟨g21, 0, none⟩)) (rs := []) 0 rfl (by kernel_rfl) (fun _ _ => Yl.kern rfl rfl (fun _ => by kernel_rfl)) (GX.take (v := .string ⟨List.toArray p0.xLo⟩) (rs := []) 1 rfl (by kernel_rfl) (fun _ ⟨_, H9⟩ => Yl.load rfl (Lds.one Try.isAgg9 (Cls.of (H9.cls (i := 2) rfl) rfl))) (GX.take (v := .pointer (some ⟨g24, 0, none⟩)) (rs := []) 2 rfl (by kernel_rfl) (fun _ _ => Yl.kern rfl rfl (fun _ => by kernel_rfl)) (GX.take (v := .string ⟨List.toArray p1.xLo⟩) (rs := []) 3 rfl (by kernel_rfl) (fun _ ⟨_, H9⟩ => Yl.load rfl (Lds.one Try.isAgg9 (Cls.of (H9.cls (i := 1) rfl) rfl))) (GX.take (v := .string ⟨List.toArray (maxL p0.xLo p1.xLo)⟩) (rs := []) 4 rfl (by kernel_rfl) (fun _ _ => Yl.maxStr rfl) (GX.take (v := .pointer (some ⟨g21, 1, none⟩)) (rs := []) 5 rfl (by kernel_rfl) (fun _ _ => Yl.kern rfl rfl (fun _ => by kernel_rfl)) (GX.take (v := .string ⟨List.toArray p0.xHi⟩) (rs := []) 6 rfl (by kernel_rfl) (fun _ ⟨_, H9⟩ => Yl.load rfl (Lds.one Try.isAgg9 (Cls.of (H9.cls (i := 2) rfl) rfl))) (GX.take (v := .pointer (some ⟨g24, 1, none⟩)) (rs := []) 7 rfl (by kernel_rfl) (fun _ _ => Yl.kern rfl rfl (fun _ => by kernel_rfl)) (GX.take (v := .string ⟨List.toArray p1.xHi⟩) (rs := []) 8 rfl (by kernel_rfl) (fun _ ⟨_, H9⟩ => Yl.load rfl (Lds.one Try.isAgg9 (Cls.of (H9.cls (i := 1) rfl) rfl))) ?_))))))))
  refine GX.any2 9 11 (by kernel_rfl) ?_ ?_
  obtain ⟨r59, hr60⟩ : ∃ q, span_lesserHi p0.xHi p1.xHi = q := ⟨_, rfl⟩
  obtain ⟨D54, HP55, ro56, bk57, rr58⟩ := Own.enter0 H53
  refine GY.do 9 rfl (by kernel_rfl) (Do.call Try.call82 rfl (span_lesserHi_ok _ _ p0.xHi p1.xHi r59 HP55 hr60) ?_)
  rintro _ w61 ⟨rfl, HQ62⟩
  have H63 : Own w D w61 [blk g27 [.string ⟨List.toArray ([])⟩, .string ⟨List.toArray ([])⟩] 24, blk g24 (RangeD.cells p1) 24, blk g21 (RangeD.cells p0) 24] := bk57 _ _ HQ62
  refine ⟨.inr ⟨_, H63⟩, ?_⟩
  refine GX.take (v := .agg #[.string ⟨List.toArray (maxL p0.xLo p1.xLo)⟩, .string ⟨List.toArray r59⟩]) (rs := []) 10 rfl (by kernel_rfl) (fun _ _ => Yl.kern rfl rfl (fun _ => by kernel_rfl)) ?_
  refine GX.do 11 rfl (by kernel_rfl) (Do.newP (cs := [.string ⟨List.toArray ([])⟩, .string ⟨List.toArray ([])⟩]) (t := 24) H63 rfl rfl (fun _ => by kernel_rfl) ?_)
  intro g64 w65 H66
  replace H66 : Own w D w65 [blk g64 [.string ⟨List.toArray ([])⟩, .string ⟨List.toArray ([])⟩] 24, blk g27 [.string ⟨List.toArray ([])⟩, .string ⟨List.toArray ([])⟩] 24, blk g24 (RangeD.cells p1) 24, blk g21 (RangeD.cells p0) 24] := H66
  have H67 : Own w D w65 [blk g27 [.string ⟨List.toArray ([])⟩, .string ⟨List.toArray ([])⟩] 24, blk g24 (RangeD.cells p1) 24, blk g21 (RangeD.cells p0) 24, blk g64 [.string ⟨List.toArray ([])⟩, .string ⟨List.toArray ([])⟩] 24] := H66.pick [1, 2, 3, 0] (by decide) rfl
  refine ⟨.inr ⟨_, H67⟩, ?_⟩
  have H68 : Own w D w65 [blk g64 [.string ⟨List.toArray ([])⟩, .string ⟨List.toArray ([])⟩] 24, blk g27 [.string ⟨List.toArray ([])⟩, .string ⟨List.toArray ([])⟩] 24, blk g24 (RangeD.cells p1) 24, blk g21 (RangeD.cells p0) 24] := H67.pick [3, 0, 1, 2] (by decide) rfl
  refine GX.do0 12 rfl (by kernel_rfl) (Do.store (vs := [.string ⟨List.toArray (maxL p0.xLo p1.xLo)⟩, .string ⟨List.toArray r59⟩]) (o := 0) H68 rfl rfl Try.sizeOf24 rfl rfl rfl rfl ?_)
  intro w69 H70
  replace H70 : Own w D w69 [blk g64 [.string ⟨List.toArray (maxL p0.xLo p1.xLo)⟩, .string ⟨List.toArray r59⟩] 24, blk g27 [.string ⟨List.toArray ([])⟩, .string ⟨List.toArray ([])⟩] 24, blk g24 (RangeD.cells p1) 24, blk g21 (RangeD.cells p0) 24] := H70
  have H71 : Own w D w69 [blk g27 [.string ⟨List.toArray ([])⟩, .string ⟨List.toArray ([])⟩] 24, blk g24 (RangeD.cells p1) 24, blk g21 (RangeD.cells p0) 24, blk g64 [.string ⟨List.toArray (maxL p0.xLo p1.xLo)⟩, .string ⟨List.toArray r59⟩] 24] := H70.pick [1, 2, 3, 0] (by decide) rfl
  refine ⟨.inr ⟨_, H71⟩, ?_⟩
  refine GX.done (by kernel_rfl) (Fin.then (Wp.seq (Wp.seq (Wp.region (Kn (v := .pointer (some ⟨g64, 0, none⟩)) rfl rfl rfl (fun _ => by kernel_rfl) (WL.val (v := .string ⟨List.toArray (maxL p0.xLo p1.xLo)⟩) rfl (Yl.load rfl (Lds.one Try.isAgg9 (Cls.of (H71.cls (i := 3) rfl) rfl))) (Kn (v := .pointer (some ⟨g64, 1, none⟩)) rfl rfl rfl (fun _ => by kernel_rfl) (WL.val (v := .string ⟨List.toArray r59⟩) rfl (Yl.load rfl (Lds.one Try.isAgg9 (Cls.of (H71.cls (i := 3) rfl) rfl))) ?_))))))))
  obtain ⟨r77, hr78⟩ : ∃ q, span_below (maxL p0.xLo p1.xLo) r59 = q := ⟨_, rfl⟩
  obtain ⟨D72, HP73, ro74, bk75, rr76⟩ := Own.enter0 H71
  refine WL.do rfl (Do.call Try.call55 rfl (span_below_ok _ _ (maxL p0.xLo p1.xLo) r59 r77 HP73 hr78) ?_)
  rintro _ w79 ⟨rfl, HQ80⟩
  have H81 : Own w D w79 [blk g27 [.string ⟨List.toArray ([])⟩, .string ⟨List.toArray ([])⟩] 24, blk g24 (RangeD.cells p1) 24, blk g21 (RangeD.cells p0) 24, blk g64 [.string ⟨List.toArray (maxL p0.xLo p1.xLo)⟩, .string ⟨List.toArray r59⟩] 24] := bk75 _ _ HQ80
  refine Kn (v := .bool (!r77)) rfl rfl rfl (fun _ => by kernel_rfl) (WL.nil (Fin.then ?_))
  rcases Bool.eq_false_or_eq_true (r77) with h82 | h82
  refine Wp.cond0 rfl (congrArg not h82) (Wp.skip (Fin.then (Wp.seq (Wp.region (WL.val (v := .agg #[.string ⟨List.toArray (maxL p0.xLo p1.xLo)⟩, .string ⟨List.toArray r59⟩]) rfl (Yl.load rfl (Lds.agg (cs := [.string ⟨List.toArray (maxL p0.xLo p1.xLo)⟩, .string ⟨List.toArray r59⟩]) Try.isAgg24 Try.sizeOf24 ((H81.cls (i := 3) rfl).lit (k := 0) (m := 2) rfl))) ?_)))))
  refine WL.do0 (Do.store (vs := [.string ⟨List.toArray (maxL p0.xLo p1.xLo)⟩, .string ⟨List.toArray r59⟩]) (o := 0) H81 rfl rfl Try.sizeOf24 rfl rfl rfl rfl ?_)
  intro w83 H84
  replace H84 : Own w D w83 [blk g27 [.string ⟨List.toArray (maxL p0.xLo p1.xLo)⟩, .string ⟨List.toArray r59⟩] 24, blk g24 (RangeD.cells p1) 24, blk g21 (RangeD.cells p0) 24, blk g64 [.string ⟨List.toArray (maxL p0.xLo p1.xLo)⟩, .string ⟨List.toArray r59⟩] 24] := H84
  refine As rfl rfl (WL.nil (Fin.then (Wp.ret (Fin.res (resN (vs := [.agg #[.string ⟨List.toArray (maxL p0.xLo p1.xLo)⟩, .string ⟨List.toArray r59⟩], .bool true]) rfl (ResV.cell rfl (Lds.agg (cs := [.string ⟨List.toArray (maxL p0.xLo p1.xLo)⟩, .string ⟨List.toArray r59⟩]) Try.isAgg24 Try.sizeOf24 ((H84.cls (i := 0) rfl).lit (k := 0) (m := 2) rfl)) (ResV.tmp rfl ResV.nil)) (Nat.le_of_ble_eq_true rfl)) ?_))))
  have H85 : Own w D w83 [] := H84.pick [] (by decide) rfl
  have e : span_Meet p0 p1 = (RangeD.mk (maxL p0.xLo p1.xLo) r59, true) := Eq.trans (bnd_of hr36) (Eq.trans (if_pos h40) (Eq.trans (bnd_of hr47) (Eq.trans (if_pos h51) (Eq.trans (bnd_of hr60) (Eq.trans (bnd_of hr78) (if_pos h82))))))
  obtain ⟨rfl, rfl⟩ := pj2 (e.symm.trans hr)
  exact ⟨rfl, H85⟩
  refine Wp.cond1 rfl (congrArg not h82) (Wp.seq (Wp.region (Kn (v := .agg #[.string ⟨List.toArray ([])⟩, .string ⟨List.toArray ([])⟩]) rfl rfl rfl (fun _ => by kernel_rfl) ?_)))
  refine WL.do0 (Do.store (vs := [.string ⟨List.toArray ([])⟩, .string ⟨List.toArray ([])⟩]) (o := 0) H81 rfl rfl Try.sizeOf24 rfl rfl rfl rfl ?_)
  intro w86 H87
  replace H87 : Own w D w86 [blk g27 [.string ⟨List.toArray ([])⟩, .string ⟨List.toArray ([])⟩] 24, blk g24 (RangeD.cells p1) 24, blk g21 (RangeD.cells p0) 24, blk g64 [.string ⟨List.toArray (maxL p0.xLo p1.xLo)⟩, .string ⟨List.toArray r59⟩] 24] := H87
  refine As rfl rfl (WL.nil (Fin.then (Wp.ret (Fin.thenR (Fin.res (resN (vs := [.agg #[.string ⟨List.toArray ([])⟩, .string ⟨List.toArray ([])⟩], .bool false]) rfl (ResV.cell rfl (Lds.agg (cs := [.string ⟨List.toArray ([])⟩, .string ⟨List.toArray ([])⟩]) Try.isAgg24 Try.sizeOf24 ((H87.cls (i := 0) rfl).lit (k := 0) (m := 2) rfl)) (ResV.tmp rfl ResV.nil)) (Nat.le_of_ble_eq_true rfl)) ?_)))))
  have H88 : Own w D w86 [] := H87.pick [] (by decide) rfl
  have e : span_Meet p0 p1 = (RangeD.mk ([]) ([]), false) := Eq.trans (bnd_of hr36) (Eq.trans (if_pos h40) (Eq.trans (bnd_of hr47) (Eq.trans (if_pos h51) (Eq.trans (bnd_of hr60) (Eq.trans (bnd_of hr78) (ifF h82))))))
  obtain ⟨rfl, rfl⟩ := pj2 (e.symm.trans hr)
  exact ⟨rfl, H88⟩
  refine GY.do 11 rfl (by kernel_rfl) (Do.newP (cs := [.string ⟨List.toArray ([])⟩, .string ⟨List.toArray ([])⟩]) (t := 24) H53 rfl rfl (fun _ => by kernel_rfl) ?_)
  intro g89 w90 H91
  replace H91 : Own w D w90 [blk g89 [.string ⟨List.toArray ([])⟩, .string ⟨List.toArray ([])⟩] 24, blk g27 [.string ⟨List.toArray ([])⟩, .string ⟨List.toArray ([])⟩] 24, blk g24 (RangeD.cells p1) 24, blk g21 (RangeD.cells p0) 24] := H91
  have H92 : Own w D w90 [blk g27 [.string ⟨List.toArray ([])⟩, .string ⟨List.toArray ([])⟩] 24, blk g24 (RangeD.cells p1) 24, blk g21 (RangeD.cells p0) 24, blk g89 [.string ⟨List.toArray ([])⟩, .string ⟨List.toArray ([])⟩] 24] := H91.pick [1, 2, 3, 0] (by decide) rfl
  refine ⟨.inr ⟨_, H92⟩, ?_⟩
  obtain ⟨r98, hr99⟩ : ∃ q, span_lesserHi p0.xHi p1.xHi = q := ⟨_, rfl⟩
  obtain ⟨D93, HP94, ro95, bk96, rr97⟩ := Own.enter0 H92
  refine GX.do 9 rfl (by kernel_rfl) (Do.call Try.call82 rfl (span_lesserHi_ok _ _ p0.xHi p1.xHi r98 HP94 hr99) ?_)
  rintro _ w100 ⟨rfl, HQ101⟩
  have H102 : Own w D w100 [blk g27 [.string ⟨List.toArray ([])⟩, .string ⟨List.toArray ([])⟩] 24, blk g24 (RangeD.cells p1) 24, blk g21 (RangeD.cells p0) 24, blk g89 [.string ⟨List.toArray ([])⟩, .string ⟨List.toArray ([])⟩] 24] := bk96 _ _ HQ101
  refine ⟨.inr ⟨_, H102⟩, ?_⟩
  refine GX.take (v := .agg #[.string ⟨List.toArray (maxL p0.xLo p1.xLo)⟩, .string ⟨List.toArray r98⟩]) (rs := []) 10 rfl (by kernel_rfl) (fun _ _ => Yl.kern rfl rfl (fun _ => by kernel_rfl)) ?_
  have H103 : Own w D w100 [blk g89 [.string ⟨List.toArray ([])⟩, .string ⟨List.toArray ([])⟩] 24, blk g27 [.string ⟨List.toArray ([])⟩, .string ⟨List.toArray ([])⟩] 24, blk g24 (RangeD.cells p1) 24, blk g21 (RangeD.cells p0) 24] := H102.pick [3, 0, 1, 2] (by decide) rfl
  refine GX.do0 12 rfl (by kernel_rfl) (Do.store (vs := [.string ⟨List.toArray (maxL p0.xLo p1.xLo)⟩, .string ⟨List.toArray r98⟩]) (o := 0) H103 rfl rfl Try.sizeOf24 rfl rfl rfl rfl ?_)
  intro w104 H105
  replace H105 : Own w D w104 [blk g89 [.string ⟨List.toArray (maxL p0.xLo p1.xLo)⟩, .string ⟨List.toArray r98⟩] 24, blk g27 [.string ⟨List.toArray ([])⟩, .string ⟨List.toArray ([])⟩] 24, blk g24 (RangeD.cells p1) 24, blk g21 (RangeD.cells p0) 24] := H105
  have H106 : Own w D w104 [blk g27 [.string ⟨List.toArray ([])⟩, .string ⟨List.toArray ([])⟩] 24, blk g24 (RangeD.cells p1) 24, blk g21 (RangeD.cells p0) 24, blk g89 [.string ⟨List.toArray (maxL p0.xLo p1.xLo)⟩, .string ⟨List.toArray r98⟩] 24] := H105.pick [1, 2, 3, 0] (by decide) rfl
  refine ⟨.inr ⟨_, H106⟩, ?_⟩
  refine GX.done (by kernel_rfl) (Fin.then (Wp.seq (Wp.seq (Wp.region (Kn (v := .pointer (some ⟨g89, 0, none⟩)) rfl rfl rfl (fun _ => by kernel_rfl) (WL.val (v := .string ⟨List.toArray (maxL p0.xLo p1.xLo)⟩) rfl (Yl.load rfl (Lds.one Try.isAgg9 (Cls.of (H106.cls (i := 3) rfl) rfl))) (Kn (v := .pointer (some ⟨g89, 1, none⟩)) rfl rfl rfl (fun _ => by kernel_rfl) (WL.val (v := .string ⟨List.toArray r98⟩) rfl (Yl.load rfl (Lds.one Try.isAgg9 (Cls.of (H106.cls (i := 3) rfl) rfl))) ?_))))))))
  obtain ⟨r112, hr113⟩ : ∃ q, span_below (maxL p0.xLo p1.xLo) r98 = q := ⟨_, rfl⟩
  obtain ⟨D107, HP108, ro109, bk110, rr111⟩ := Own.enter0 H106
  refine WL.do rfl (Do.call Try.call55 rfl (span_below_ok _ _ (maxL p0.xLo p1.xLo) r98 r112 HP108 hr113) ?_)
  rintro _ w114 ⟨rfl, HQ115⟩
  have H116 : Own w D w114 [blk g27 [.string ⟨List.toArray ([])⟩, .string ⟨List.toArray ([])⟩] 24, blk g24 (RangeD.cells p1) 24, blk g21 (RangeD.cells p0) 24, blk g89 [.string ⟨List.toArray (maxL p0.xLo p1.xLo)⟩, .string ⟨List.toArray r98⟩] 24] := bk110 _ _ HQ115
  refine Kn (v := .bool (!r112)) rfl rfl rfl (fun _ => by kernel_rfl) (WL.nil (Fin.then ?_))
  rcases Bool.eq_false_or_eq_true (r112) with h117 | h117
  refine Wp.cond0 rfl (congrArg not h117) (Wp.skip (Fin.then (Wp.seq (Wp.region (WL.val (v := .agg #[.string ⟨List.toArray (maxL p0.xLo p1.xLo)⟩, .string ⟨List.toArray r98⟩]) rfl (Yl.load rfl (Lds.agg (cs := [.string ⟨List.toArray (maxL p0.xLo p1.xLo)⟩, .string ⟨List.toArray r98⟩]) Try.isAgg24 Try.sizeOf24 ((H116.cls (i := 3) rfl).lit (k := 0) (m := 2) rfl))) ?_)))))
  refine WL.do0 (Do.store (vs := [.string ⟨List.toArray (maxL p0.xLo p1.xLo)⟩, .string ⟨List.toArray r98⟩]) (o := 0) H116 rfl rfl Try.sizeOf24 rfl rfl rfl rfl ?_)
  intro w118 H119
  replace H119 : Own w D w118 [blk g27 [.string ⟨List.toArray (maxL p0.xLo p1.xLo)⟩, .string ⟨List.toArray r98⟩] 24, blk g24 (RangeD.cells p1) 24, blk g21 (RangeD.cells p0) 24, blk g89 [.string ⟨List.toArray (maxL p0.xLo p1.xLo)⟩, .string ⟨List.toArray r98⟩] 24] := H119
  refine As rfl rfl (WL.nil (Fin.then (Wp.ret (Fin.res (resN (vs := [.agg #[.string ⟨List.toArray (maxL p0.xLo p1.xLo)⟩, .string ⟨List.toArray r98⟩], .bool true]) rfl (ResV.cell rfl (Lds.agg (cs := [.string ⟨List.toArray (maxL p0.xLo p1.xLo)⟩, .string ⟨List.toArray r98⟩]) Try.isAgg24 Try.sizeOf24 ((H119.cls (i := 0) rfl).lit (k := 0) (m := 2) rfl)) (ResV.tmp rfl ResV.nil)) (Nat.le_of_ble_eq_true rfl)) ?_))))
  have H120 : Own w D w118 [] := H119.pick [] (by decide) rfl
  have e : span_Meet p0 p1 = (RangeD.mk (maxL p0.xLo p1.xLo) r98, true) := Eq.trans (bnd_of hr36) (Eq.trans (if_pos h40) (Eq.trans (bnd_of hr47) (Eq.trans (if_pos h51) (Eq.trans (bnd_of hr99) (Eq.trans (bnd_of hr113) (if_pos h117))))))
  obtain ⟨rfl, rfl⟩ := pj2 (e.symm.trans hr)
  exact ⟨rfl, H120⟩
  refine Wp.cond1 rfl (congrArg not h117) (Wp.seq (Wp.region (Kn (v := .agg #[.string ⟨List.toArray ([])⟩, .string ⟨List.toArray ([])⟩]) rfl rfl rfl (fun _ => by kernel_rfl) ?_)))
  refine WL.do0 (Do.store (vs := [.string ⟨List.toArray ([])⟩, .string ⟨List.toArray ([])⟩]) (o := 0) H116 rfl rfl Try.sizeOf24 rfl rfl rfl rfl ?_)
  intro w121 H122
  replace H122 : Own w D w121 [blk g27 [.string ⟨List.toArray ([])⟩, .string ⟨List.toArray ([])⟩] 24, blk g24 (RangeD.cells p1) 24, blk g21 (RangeD.cells p0) 24, blk g89 [.string ⟨List.toArray (maxL p0.xLo p1.xLo)⟩, .string ⟨List.toArray r98⟩] 24] := H122
  refine As rfl rfl (WL.nil (Fin.then (Wp.ret (Fin.thenR (Fin.res (resN (vs := [.agg #[.string ⟨List.toArray ([])⟩, .string ⟨List.toArray ([])⟩], .bool false]) rfl (ResV.cell rfl (Lds.agg (cs := [.string ⟨List.toArray ([])⟩, .string ⟨List.toArray ([])⟩]) Try.isAgg24 Try.sizeOf24 ((H122.cls (i := 0) rfl).lit (k := 0) (m := 2) rfl)) (ResV.tmp rfl ResV.nil)) (Nat.le_of_ble_eq_true rfl)) ?_)))))
  have H123 : Own w D w121 [] := H122.pick [] (by decide) rfl
  have e : span_Meet p0 p1 = (RangeD.mk ([]) ([]), false) := Eq.trans (bnd_of hr36) (Eq.trans (if_pos h40) (Eq.trans (bnd_of hr47) (Eq.trans (if_pos h51) (Eq.trans (bnd_of hr99) (Eq.trans (bnd_of hr113) (ifF h117))))))
  obtain ⟨rfl, rfl⟩ := pj2 (e.symm.trans hr)
  exact ⟨rfl, H123⟩
  refine Wp.cond1 rfl (decide_eq_true h51) (Wp.seq (Wp.region (Kn (v := .agg #[.string ⟨List.toArray ([])⟩, .string ⟨List.toArray ([])⟩]) rfl rfl rfl (fun _ => by kernel_rfl) ?_)))
  refine WL.do0 (Do.store (vs := [.string ⟨List.toArray ([])⟩, .string ⟨List.toArray ([])⟩]) (o := 0) H50 rfl rfl Try.sizeOf24 rfl rfl rfl rfl ?_)
  intro w124 H125
  replace H125 : Own w D w124 [blk g27 [.string ⟨List.toArray ([])⟩, .string ⟨List.toArray ([])⟩] 24, blk g24 (RangeD.cells p1) 24, blk g21 (RangeD.cells p0) 24] := H125
  refine As rfl rfl (WL.nil (Fin.then (Wp.ret (Fin.thenR (Fin.res (resN (vs := [.agg #[.string ⟨List.toArray ([])⟩, .string ⟨List.toArray ([])⟩], .bool false]) rfl (ResV.cell rfl (Lds.agg (cs := [.string ⟨List.toArray ([])⟩, .string ⟨List.toArray ([])⟩]) Try.isAgg24 Try.sizeOf24 ((H125.cls (i := 0) rfl).lit (k := 0) (m := 2) rfl)) (ResV.tmp rfl ResV.nil)) (Nat.le_of_ble_eq_true rfl)) ?_)))))
  have H126 : Own w D w124 [] := H125.pick [] (by decide) rfl
  have e : span_Meet p0 p1 = (RangeD.mk ([]) ([]), false) := Eq.trans (bnd_of hr36) (Eq.trans (if_pos h40) (Eq.trans (bnd_of hr47) (if_neg h51)))
  obtain ⟨rfl, rfl⟩ := pj2 (e.symm.trans hr)
  exact ⟨rfl, H126⟩
  refine Sk rfl rfl (decide_eq_true h40) rfl (Sk rfl rfl (decide_eq_true h40) rfl (Sk rfl rfl (decide_eq_true h40) rfl (WL.val (v := .bool true) rfl (Yl.pickT rfl (decide_eq_true h40) rfl) (WL.nil (Fin.then (Wp.cond1 rfl rfl (Wp.seq (Wp.region (Kn (v := .agg #[.string ⟨List.toArray ([])⟩, .string ⟨List.toArray ([])⟩]) rfl rfl rfl (fun _ => by kernel_rfl) ?_)))))))))
  refine WL.do0 (Do.store (vs := [.string ⟨List.toArray ([])⟩, .string ⟨List.toArray ([])⟩]) (o := 0) H39 rfl rfl Try.sizeOf24 rfl rfl rfl rfl ?_)
  intro w127 H128
  replace H128 : Own w D w127 [blk g27 [.string ⟨List.toArray ([])⟩, .string ⟨List.toArray ([])⟩] 24, blk g24 (RangeD.cells p1) 24, blk g21 (RangeD.cells p0) 24] := H128
  refine As rfl rfl (WL.nil (Fin.then (Wp.ret (Fin.thenR (Fin.res (resN (vs := [.agg #[.string ⟨List.toArray ([])⟩, .string ⟨List.toArray ([])⟩], .bool false]) rfl (ResV.cell rfl (Lds.agg (cs := [.string ⟨List.toArray ([])⟩, .string ⟨List.toArray ([])⟩]) Try.isAgg24 Try.sizeOf24 ((H128.cls (i := 0) rfl).lit (k := 0) (m := 2) rfl)) (ResV.tmp rfl ResV.nil)) (Nat.le_of_ble_eq_true rfl)) ?_)))))
  have H129 : Own w D w127 [] := H128.pick [] (by decide) rfl
  have e : span_Meet p0 p1 = (RangeD.mk ([]) ([]), false) := Eq.trans (bnd_of hr36) (if_neg h40)
  obtain ⟨rfl, rfl⟩ := pj2 (e.symm.trans hr)
  exact ⟨rfl, H129⟩

def span_Covers (p0 : RangeD) (p1 : RangeD) : Bool :=
  bnd (span_Meet p0 p1) fun yr32 => if yr32.2 = true then decide ((yr32.1.xLo = p1.xLo) ∧ (yr32.1.xHi = p1.xHi)) else false

set_option maxRecDepth 100000 in
theorem span_Covers_ok (w : World) (D : Nat → Prop) (p0 : RangeD) (p1 : RangeD) (r0 : Bool) (H : Own w D w [])  (hr : span_Covers p0 p1 = r0) :
    Calls Try.prog 39 #[.agg (RangeD.cells p0).toArray, .agg (RangeD.cells p1).toArray] w (Ret fun v w' => v = .bool r0 ∧ Own w D w' []) := by
  refine Calls.body (args := [.agg (RangeD.cells p0).toArray, .agg (RangeD.cells p1).toArray]) Try.func39 rfl rfl rfl ?_
  show Wp _ _ _ [(0, .agg (RangeD.cells p0).toArray), (1, .agg (RangeD.cells p1).toArray)] _ _
  refine Wp.seq (Wp.region ?_)
  refine WL.do rfl (Do.newP (cs := (RangeD.cells p0)) (t := 24) H rfl rfl (fun _ => by kernel_rfl) ?_)
  intro g21 w22 H23
  replace H23 : Own w D w22 [blk g21 (RangeD.cells p0) 24] := H23
  refine WL.do rfl (Do.newP (cs := (RangeD.cells p1)) (t := 24) H23 rfl rfl (fun _ => by kernel_rfl) ?_)
  intro g24 w25 H26
  replace H26 : Own w D w25 [blk g24 (RangeD.cells p1) 24, blk g21 (RangeD.cells p0) 24] := H26
  refine As rfl rfl (WL.nil (Fin.then (Wp.seq (Wp.region (WL.val (v := .agg (RangeD.cells p0).toArray) rfl (Yl.load rfl (Lds.agg (cs := (RangeD.cells p0)) Try.isAgg24 Try.sizeOf24 ((H26.cls (i := 1) rfl).lit (k := 0) (m := 2) rfl))) (WL.val (v := .agg (RangeD.cells p1).toArray) rfl (Yl.load rfl (Lds.agg (cs := (RangeD.cells p1)) Try.isAgg24 Try.sizeOf24 ((H26.cls (i := 0) rfl).lit (k := 0) (m := 2) rfl))) ?_))))))
  obtain ⟨⟨r32, r33⟩, hr34⟩ : ∃ q : RangeD × Bool, span_Meet p0 p1 = q := ⟨_, rfl⟩
  obtain ⟨D27, HP28, ro29, bk30, rr31⟩ := Own.enter0 H26
  refine WL.do rfl (Do.call Try.call57 rfl (span_Meet_ok _ _ p0 p1 r32 r33 HP28 hr34) ?_)
  rintro _ w35 ⟨rfl, HQ36⟩
  have H37 : Own w D w35 [blk g24 (RangeD.cells p1) 24, blk g21 (RangeD.cells p0) 24] := bk30 _ _ HQ36
  refine Mv rfl rfl (Kn (v := .agg (RangeD.cells r32).toArray) rfl rfl rfl (fun _ => by kernel_rfl) (Kn (v := .bool r33) rfl rfl rfl (fun _ => by kernel_rfl) ?_))
  refine WL.do rfl (Do.newP (cs := [.string ⟨List.toArray ([])⟩, .string ⟨List.toArray ([])⟩]) (t := 24) H37 rfl rfl (fun _ => by kernel_rfl) ?_)
  intro g38 w39 H40
  replace H40 : Own w D w39 [blk g38 [.string ⟨List.toArray ([])⟩, .string ⟨List.toArray ([])⟩] 24, blk g24 (RangeD.cells p1) 24, blk g21 (RangeD.cells p0) 24] := H40
  refine WL.do0 (Do.store (vs := (RangeD.cells r32)) (o := 0) H40 rfl rfl Try.sizeOf24 rfl rfl rfl rfl ?_)
  intro w41 H42
  replace H42 : Own w D w41 [blk g38 (RangeD.cells r32) 24, blk g24 (RangeD.cells p1) 24, blk g21 (RangeD.cells p0) 24] := H42
  refine As rfl rfl (WL.nil (Fin.then (Wp.seq (Wp.region (Mv rfl rfl (Mv rfl rfl ?_))))))
  rcases Bool.eq_false_or_eq_true (r33) with h43 | h43
  refine WL.valG (v := .agg (RangeD.cells r32).toArray) rfl rfl h43 rfl (Yl.load rfl (Lds.agg (cs := (RangeD.cells r32)) Try.isAgg24 Try.sizeOf24 ((H42.cls (i := 0) rfl).lit (k := 0) (m := 2) rfl))) (WL.valG (v := .agg (RangeD.cells p1).toArray) rfl rfl h43 rfl (Yl.load rfl (Lds.agg (cs := (RangeD.cells p1)) Try.isAgg24 Try.sizeOf24 ((H42.cls (i := 1) rfl).lit (k := 0) (m := 2) rfl))) (WL.valG (v := .bool (decide ((r32.xLo = p1.xLo) ∧ (r32.xHi = p1.xHi)))) rfl rfl h43 rfl (Yl.eqAgg rfl rfl (by kernel_rfl) rfl (Eqv.struct Try.underlying24 (by kernel_rfl) (EqF.dec (EqF.cons (u := .string ⟨List.toArray r32.xLo⟩) (v := .string ⟨List.toArray p1.xLo⟩) (by decide) (fun _ => by kernel_rfl) (fun _ => by kernel_rfl) (Eqv.string Try.underlying9) (EqF.cons (u := .string ⟨List.toArray r32.xHi⟩) (v := .string ⟨List.toArray p1.xHi⟩) (by decide) (fun _ => by kernel_rfl) (fun _ => by kernel_rfl) (Eqv.string Try.underlying9) (EqF.nil.up (Nat.zero_le _)))) ((congrArg (decide (r32.xLo = p1.xLo) && ·) and_dec1).trans and_dec)))) (WL.val (v := .bool (decide ((r32.xLo = p1.xLo) ∧ (r32.xHi = p1.xHi)))) rfl (Yl.pickT rfl h43 rfl) (As rfl rfl (WL.nil (Fin.then (Wp.ret (Fin.res (res1 rfl rfl) ?_))))))))
  have H44 : Own w D w41 [] := H42.pick [] (by decide) rfl
  have e : span_Covers p0 p1 = decide ((r32.xLo = p1.xLo) ∧ (r32.xHi = p1.xHi)) := Eq.trans (bnd_of hr34) (if_pos h43)
  obtain rfl := e.symm.trans hr
  exact ⟨rfl, H44⟩
  refine Sk rfl rfl h43 rfl (Sk rfl rfl h43 rfl (Sk rfl rfl h43 rfl (WL.val (v := .bool false) rfl (Yl.pickF rfl h43 rfl) (As rfl rfl (WL.nil (Fin.then (Wp.ret (Fin.res (res1 rfl rfl) ?_))))))))
  have H45 : Own w D w41 [] := H42.pick [] (by decide) rfl
  have e : span_Covers p0 p1 = false := Eq.trans (bnd_of hr34) (ifF h43)
  obtain rfl := e.symm.trans hr
  exact ⟨rfl, H45⟩

def owner_Owns_L0 (l0 : List OwnerD) (p1 : Int) (p2 : RangeD) : List OwnerD → Nat → Unit ⊕ Bool
  | [], k36 => Sum.inl ()
  | x45 :: q37, k36 => if x45.xShard = p1 then bnd (owner_rangeOf l0 ((k36 : Nat) : Int)) fun yr56 => bnd (span_Covers yr56 p2) fun yr66 => if yr66 = true then Sum.inr (true) else owner_Owns_L0 l0 p1 p2 q37 (k36 + 1) else owner_Owns_L0 l0 p1 p2 q37 (k36 + 1)

def owner_Owns (l0 : List OwnerD) (p1 : Int) (p2 : RangeD) : Bool :=
  bnd (owner_Check l0) fun yr29 => if yr29 = 0 then lp (owner_Owns_L0 l0 p1 p2 l0 0) fun _ => false else false

set_option maxRecDepth 100000 in
theorem owner_Owns_ok (w : World) (D : Nat → Prop) (A0 : Option Addr) (n0 c0 : Nat) (l0 : List OwnerD) (p1 : Int) (p2 : RangeD) (r0 : Bool) (H : Own w D w []) (hx0 : Ro w D fun w' => Rds w' 2 A0 n0 (List.flatMap OwnerD.cells l0)) (hn0 : n0 = List.length l0) (hl0 : List.length l0 * 24 ≤ 211106232532992) (hr : owner_Owns l0 p1 p2 = r0) :
    Calls Try.prog 16 #[.slice A0 n0 c0, .int .i64 p1, .agg (RangeD.cells p2).toArray] w (Ret fun v w' => v = .bool r0 ∧ Own w D w' []) := by
  subst hn0
  refine Calls.body (args := [.slice A0 (List.length l0) c0, .int .i64 p1, .agg (RangeD.cells p2).toArray]) Try.func16 rfl rfl rfl ?_
  show Wp _ _ _ [(0, .slice A0 (List.length l0) c0), (1, .int .i64 p1), (2, .agg (RangeD.cells p2).toArray)] _ _
  refine Wp.seq (Wp.region ?_)
  refine WL.do rfl (Do.newP (cs := (RangeD.cells p2)) (t := 24) H rfl rfl (fun _ => by kernel_rfl) ?_)
  intro g21 w22 H23
  replace H23 : Own w D w22 [blk g21 (RangeD.cells p2) 24] := H23
  refine As rfl rfl (WL.nil (Fin.then (Wp.seq (Wp.seq (Wp.region (Mv rfl rfl ?_))))))
  obtain ⟨r29, hr30⟩ : ∃ q, owner_Check l0 = q := ⟨_, rfl⟩
  obtain ⟨D24, HP25, ro26, bk27, rr28⟩ := Own.enter0 H23
  refine WL.do rfl (Do.call Try.call14 rfl (owner_Check_ok _ _ A0 (List.length l0) c0 l0 r29 HP25 (ro26 _ hx0) rfl (by omega) hr30) ?_)
  rintro _ w31 ⟨rfl, HQ32, hk34⟩
  have H33 : Own w D w31 [blk g21 (RangeD.cells p2) 24] := bk27 _ _ HQ32
  replace hk34 : ¬ (r29 = 0) ∨ (1 ≤ List.length l0 ∧ List.length l0 ≤ 6) := hk34
  refine WL.val (v := .bool (decide (¬ (r29 = 0)))) rfl (Yl.bool (e := !(decide (r29 = 0))) (Yl.kern rfl rfl (fun _ => by kernel_rfl)) decide_not.symm) (WL.nil (Fin.then ?_))
  by_cases h35 : r29 = 0
  refine Wp.cond0 rfl (decide_eq_false (not_not_intro h35)) (Wp.skip (Fin.then (Wp.seq (Wp.seq (Wp.region (Mv rfl rfl (Kn (v := .int .i64 ((List.length l0 : Nat) : Int)) rfl rfl rfl (fun _ => by kernel_rfl) (Mv rfl rfl (WL.nil (Fin.then (Wp.block ?_)))))))))))
  have H38 : Own w D w31 [blk g21 (RangeD.cells p2) 24] := H33.pick [0] (by decide) rfl
  refine Wp.loop (ι := Nat) (fun i => [(6, .bool false), (13, .int .i64 ((i : Nat) : Int)), (12, .int .i64 ((List.length l0 : Nat) : Int)), (5, .pointer (some ⟨g21, 0, none⟩)), (0, .slice A0 (List.length l0) c0), (1, .int .i64 p1)]) (fun (i : Nat) w' => Own w D w' [blk g21 (RangeD.cells p2) 24] ∧ (i ≤ List.length l0 ∧ owner_Owns_L0 l0 p1 p2 l0 0 = owner_Owns_L0 l0 p1 p2 (List.drop i l0) i)) (fun i => List.length l0 - i) 0 ⟨rfl, rfl, rfl, rfl, rfl, rfl, trivial⟩ ⟨H38, (show 0 ≤ List.length l0 ∧ owner_Owns_L0 l0 p1 p2 l0 0 = owner_Owns_L0 l0 p1 p2 (List.drop 0 l0) 0 from ⟨by omega, rfl⟩)⟩ ?_
  rintro k36 w39 ⟨H40, hf41⟩
  show Wp _ _ _ [(6, .bool false), (13, .int .i64 ((k36 : Nat) : Int)), (12, .int .i64 ((List.length l0 : Nat) : Int)), (5, .pointer (some ⟨g21, 0, none⟩)), (0, .slice A0 (List.length l0) c0), (1, .int .i64 p1)] _ _
  replace H40 : Own w D w39 [blk g21 (RangeD.cells p2) 24] := H40
  replace hf41 : k36 ≤ List.length l0 ∧ owner_Owns_L0 l0 p1 p2 l0 0 = owner_Owns_L0 l0 p1 p2 (List.drop k36 l0) k36 := hf41
  obtain ⟨hi43, hq42⟩ := hf41
  refine Wp.seq (Wp.region (Kn (v := .bool (decide (((k36 : Nat) : Int) < ((List.length l0 : Nat) : Int)))) rfl rfl rfl (fun _ => by kernel_rfl) (WL.nil (Fin.then (Wp.seq ?_)))))
  by_cases h44 : ((k36 : Nat) : Int) < ((List.length l0 : Nat) : Int)
  obtain ⟨x45, hx46⟩ := rds_at (ls := l0) (i := k36) OwnerD.len (by decide) (H40.ro hx0) (by first | omega | (simp; done) | (simp; omega))
  have hd47 := drop_at hx46
  refine Wp.cond1 rfl (decide_eq_true h44) (Wp.skip (Fin.then (Wp.seq (Wp.block (Wp.seq (Wp.region (Mv rfl rfl (As rfl rfl (WL.nil (Fin.then (Wp.seq ?_)))))))))))
  have H49 := H40.drew
  refine Wp.drawnX [] (fun W => ∃ L', Own w D W ([blk g21 (RangeD.cells p2) 24] ++ L')) (by kernel_rfl) (by kernel_rfl) (NoP.then (NoP.block (NoP.then (NoP.then (NoP.block (NoP.then NoP.base)))))) ⟨_, H49⟩ ?_
  revert H49
  generalize World.drew w39 = w48
  intro H49
  replace H49 : Own w D w48 [blk g21 (RangeD.cells p2) 24] := H49
  refine GX.take (v := .slice A0 (List.length l0) c0) (rs := []) 0 rfl (by kernel_rfl) (fun _ _ => Yl.move rfl) (GX.take (v := .int .i64 ((k36 : Nat) : Int)) (rs := []) 1 rfl (by kernel_rfl) (fun _ _ => Yl.move rfl) (GX.take (v := .pointer (some ⟨ab A0, ao A0 + k36 * 2, none⟩)) (rs := []) 2 rfl (by kernel_rfl) (fun _ ⟨_, H9⟩ => Yl.indexAddr (El22) rfl rfl ((H9.ro hx0).addr (i := k36) (by omega)) (by omega)) (GX.take (v := .pointer (some ⟨ab A0, ao A0 + k36 * 2 + 1, none⟩)) (rs := []) 3 rfl (by kernel_rfl) (fun _ _ => Yl.kern rfl rfl (fun _ => by kernel_rfl)) (GX.take (v := .int .i64 x45.xShard) (rs := []) 4 rfl (by kernel_rfl) (fun _ ⟨_, H9⟩ => Yl.load rfl (Lds.one Try.isAgg3 (((H9.ro hx0).elem OwnerD.len hx46 (by decide)).at_ (k := 1) rfl))) (GX.take (v := .int .i64 p1) (rs := []) 5 rfl (by kernel_rfl) (fun _ _ => Yl.move rfl) (GX.take (v := .bool (decide (x45.xShard = p1))) (rs := []) 6 rfl (by kernel_rfl) (fun _ _ => Yl.kern rfl rfl (fun _ => by kernel_rfl)) (GX.take (v := .bool (decide (x45.xShard = p1))) (rs := []) 7 rfl (by kernel_rfl) (fun _ _ => Yl.move rfl) ?_)))))))
  by_cases h50 : x45.xShard = p1
  refine GX.takeG (v := .slice A0 (List.length l0) c0) (rs := []) 8 rfl rfl rfl (decide_eq_true h50) (by kernel_rfl) (fun _ _ => Yl.move rfl) (GX.takeG (v := .int .i64 ((k36 : Nat) : Int)) (rs := []) 9 rfl rfl rfl (decide_eq_true h50) (by kernel_rfl) (fun _ _ => Yl.move rfl) (GX.takeG (v := .agg (RangeD.cells p2).toArray) (rs := []) 11 rfl rfl rfl (decide_eq_true h50) (by kernel_rfl) (fun _ ⟨_, H9⟩ => Yl.load rfl (Lds.agg (cs := (RangeD.cells p2)) Try.isAgg24 Try.sizeOf24 ((H9.cls (i := 0) rfl).lit (k := 0) (m := 2) rfl))) ?_))
  obtain ⟨r56, hr57⟩ : ∃ q, owner_rangeOf l0 ((k36 : Nat) : Int) = q := ⟨_, rfl⟩
  obtain ⟨D51, HP52, ro53, bk54, rr55⟩ := Own.enter0 H49
  refine GX.doG 10 rfl rfl rfl (decide_eq_true h50) (by kernel_rfl) (Do.call Try.call36 rfl (owner_rangeOf_ok _ _ A0 (List.length l0) c0 l0 ((k36 : Nat) : Int) r56 HP52 (ro53 _ hx0) rfl (by omega) (by omega) hr57) ?_)
  rintro _ w58 ⟨rfl, HQ59⟩
  have H60 : Own w D w58 [blk g21 (RangeD.cells p2) 24] := bk54 _ _ HQ59
  refine ⟨.inr ⟨_, H60⟩, ?_⟩
  obtain ⟨r66, hr67⟩ : ∃ q, span_Covers r56 p2 = q := ⟨_, rfl⟩
  obtain ⟨D61, HP62, ro63, bk64, rr65⟩ := Own.enter0 H60
  refine GX.doG 12 rfl rfl rfl (decide_eq_true h50) (by kernel_rfl) (Do.call Try.call39 rfl (span_Covers_ok _ _ r56 p2 r66 HP62 hr67) ?_)
  rintro _ w68 ⟨rfl, HQ69⟩
  have H70 : Own w D w68 [blk g21 (RangeD.cells p2) 24] := bk64 _ _ HQ69
  refine ⟨.inr ⟨_, H70⟩, ?_⟩
  refine GX.take (v := .bool r66) (rs := []) 13 rfl (by kernel_rfl) (fun _ _ => Yl.pickT rfl (decide_eq_true h50) rfl) (GX.done (by kernel_rfl) (Fin.then ?_))
  rcases Bool.eq_false_or_eq_true (r66) with h71 | h71
  refine Wp.cond1 rfl h71 (Wp.seq (Wp.region (As rfl rfl (WL.nil (Fin.then (Wp.ret (Fin.blockR (Fin.thenR (Fin.thenR (Fin.blockR (Fin.thenR (Fin.res (res1 rfl rfl) ?_))))))))))))
  have H72 : Own w D w68 [] := H70.pick [] (by decide) rfl
  have e : owner_Owns l0 p1 p2 = true := Eq.trans (bnd_of hr30) (Eq.trans (if_pos h35) (lp_r (Eq.trans (hq42) (Eq.trans (congrArg (fun q => owner_Owns_L0 l0 p1 p2 q k36) hd47) (Eq.trans (if_pos h50) (Eq.trans (bnd_of hr57) (Eq.trans (bnd_of hr67) (if_pos h71))))))))
  obtain rfl := e.symm.trans hr
  exact ⟨rfl, H72⟩
  refine Wp.cond0 rfl h71 (Wp.skip (Fin.blockN (Fin.then (Wp.region (WL.val (v := .int .i64 ((k36 + 1 : Nat) : Int)) rfl (Yl.int (e := IntKind.i64.wrap (((k36 : Nat) : Int) + 1)) (Yl.kern rfl rfl (fun _ => by kernel_rfl)) (by rw [IntWalk.i64_in _ (by omega)]; omega)) (Mv rfl rfl (WL.nil ?_)))))))
  have H73 : Own w D w68 [blk g21 (RangeD.cells p2) 24] := H70.pick [0] (by decide) rfl
  exact Fin.round (k36 + 1) ⟨rfl, rfl, rfl, rfl, rfl, rfl, trivial⟩ ⟨H73, (show (k36 + 1) ≤ List.length l0 ∧ owner_Owns_L0 l0 p1 p2 l0 0 = owner_Owns_L0 l0 p1 p2 (List.drop (k36 + 1) l0) (k36 + 1) from ⟨by omega, Eq.trans (hq42) (Eq.trans (congrArg (fun q => owner_Owns_L0 l0 p1 p2 q k36) hd47) (Eq.trans (if_pos h50) (Eq.trans (bnd_of hr57) (Eq.trans (bnd_of hr67) (ifF h71)))))⟩)⟩ (by show List.length l0 - (k36 + 1) < List.length l0 - k36; omega)
  refine GX.skipG (rs := []) 8 rfl rfl rfl (decide_eq_false h50) (by kernel_rfl) (GX.skipG (rs := []) 9 rfl rfl rfl (decide_eq_false h50) (by kernel_rfl) (GX.skipG (rs := []) 10 rfl rfl rfl (decide_eq_false h50) (by kernel_rfl) (GX.skipG (rs := []) 11 rfl rfl rfl (decide_eq_false h50) (by kernel_rfl) (GX.skipG (rs := []) 12 rfl rfl rfl (decide_eq_false h50) (by kernel_rfl) (GX.take (v := .bool false) (rs := []) 13 rfl (by kernel_rfl) (fun _ _ => Yl.pickF rfl (decide_eq_false h50) rfl) (GX.done (by kernel_rfl) (Fin.then (Wp.cond0 rfl rfl (Wp.skip (Fin.blockN (Fin.then (Wp.region (WL.val (v := .int .i64 ((k36 + 1 : Nat) : Int)) rfl (Yl.int (e := IntKind.i64.wrap (((k36 : Nat) : Int) + 1)) (Yl.kern rfl rfl (fun _ => by kernel_rfl)) (by rw [IntWalk.i64_in _ (by omega)]; omega)) (Mv rfl rfl (WL.nil ?_)))))))))))))))
  have H74 : Own w D w48 [blk g21 (RangeD.cells p2) 24] := H49.pick [0] (by decide) rfl
  exact Fin.round (k36 + 1) ⟨rfl, rfl, rfl, rfl, rfl, rfl, trivial⟩ ⟨H74, (show (k36 + 1) ≤ List.length l0 ∧ owner_Owns_L0 l0 p1 p2 l0 0 = owner_Owns_L0 l0 p1 p2 (List.drop (k36 + 1) l0) (k36 + 1) from ⟨by omega, Eq.trans (hq42) (Eq.trans (congrArg (fun q => owner_Owns_L0 l0 p1 p2 q k36) hd47) (if_neg h50))⟩)⟩ (by show List.length l0 - (k36 + 1) < List.length l0 - k36; omega)
  refine Wp.cond0 rfl (decide_eq_false h44) (Wp.exit (Fin.thenX ?_))
  have hL75 : owner_Owns_L0 l0 p1 p2 l0 0 = Sum.inl () := Eq.trans (hq42) (Eq.trans (congrArg (fun q => owner_Owns_L0 l0 p1 p2 q k36) (drop_end (ls := l0) (i := k36) (by omega))) rfl)
  refine Fin.thenX (Fin.blockX (Fin.then (Wp.seq (Wp.region (As rfl rfl (WL.nil (Fin.then (Wp.ret (Fin.res (res1 rfl rfl) ?_)))))))))
  have H76 : Own w D w39 [] := H40.pick [] (by decide) rfl
  have e : owner_Owns l0 p1 p2 = false := Eq.trans (bnd_of hr30) (Eq.trans (if_pos h35) (lp_l hL75))
  obtain rfl := e.symm.trans hr
  exact ⟨rfl, H76⟩
  refine Wp.cond1 rfl (decide_eq_true h35) (Wp.seq (Wp.region (As rfl rfl (WL.nil (Fin.then (Wp.ret (Fin.thenR (Fin.res (res1 rfl rfl) ?_))))))))
  have H77 : Own w D w31 [] := H33.pick [] (by decide) rfl
  have e : owner_Owns l0 p1 p2 = false := Eq.trans (bnd_of hr30) (if_neg h35)
  obtain rfl := e.symm.trans hr
  exact ⟨rfl, H77⟩

def span_Has (p0 : RangeD) (p1 : List UInt8) : Bool :=
  bnd (span_Check p0) fun yr29 => if yr29 = 0 then bnd (span_CheckKey p1) fun yr40 => if yr40 = 0 then if p0.xLo ≤ p1 then bnd (span_below p1 p0.xHi) fun yr54 => yr54 else false else false else false

set_option maxRecDepth 100000 in
theorem span_Has_ok (w : World) (D : Nat → Prop) (p0 : RangeD) (p1 : List UInt8) (r0 : Bool) (H : Own w D w [])  (hr : span_Has p0 p1 = r0) :
    Calls Try.prog 30 #[.agg (RangeD.cells p0).toArray, .string ⟨List.toArray p1⟩] w (Ret fun v w' => v = .bool r0 ∧ Own w D w' []) := by
  refine Calls.body (args := [.agg (RangeD.cells p0).toArray, .string ⟨List.toArray p1⟩]) Try.func30 rfl rfl rfl ?_
  show Wp _ _ _ [(0, .agg (RangeD.cells p0).toArray), (1, .string ⟨List.toArray p1⟩)] _ _
  refine Wp.seq (Wp.region ?_)
  refine WL.do rfl (Do.newP (cs := (RangeD.cells p0)) (t := 24) H rfl rfl (fun _ => by kernel_rfl) ?_)
  intro g21 w22 H23
  replace H23 : Own w D w22 [blk g21 (RangeD.cells p0) 24] := H23
  refine As rfl rfl (WL.nil (Fin.then (Wp.seq (Wp.region (WL.val (v := .agg (RangeD.cells p0).toArray) rfl (Yl.load rfl (Lds.agg (cs := (RangeD.cells p0)) Try.isAgg24 Try.sizeOf24 ((H23.cls (i := 0) rfl).lit (k := 0) (m := 2) rfl))) ?_)))))
  obtain ⟨r29, hr30⟩ : ∃ q, span_Check p0 = q := ⟨_, rfl⟩
  obtain ⟨D24, HP25, ro26, bk27, rr28⟩ := Own.enter0 H23
  refine WL.do rfl (Do.call Try.call29 rfl (span_Check_ok _ _ p0 r29 HP25 hr30) ?_)
  rintro _ w31 ⟨rfl, HQ32⟩
  have H33 : Own w D w31 [blk g21 (RangeD.cells p0) 24] := bk27 _ _ HQ32
  refine Kn (v := .bool (decide (r29 = 0))) rfl rfl rfl (fun _ => by kernel_rfl) (Mv rfl rfl ?_)
  by_cases h34 : r29 = 0
  refine WL.valG (v := .string ⟨List.toArray p1⟩) rfl rfl (decide_eq_true h34) rfl (Yl.move rfl) ?_
  obtain ⟨r40, hr41⟩ : ∃ q, span_CheckKey p1 = q := ⟨_, rfl⟩
  obtain ⟨D35, HP36, ro37, bk38, rr39⟩ := Own.enter0 H33
  refine WL.doG rfl rfl (decide_eq_true h34) rfl (Do.call Try.call31 rfl (span_CheckKey_ok _ _ p1 r40 HP36 hr41) ?_)
  rintro _ w42 ⟨rfl, HQ43, hk45, hk46⟩
  have H44 : Own w D w42 [blk g21 (RangeD.cells p0) 24] := bk38 _ _ HQ43
  replace hk45 : ¬ (r40 = 0) ∨ (1 ≤ List.length p1 ∧ List.length p1 ≤ 12) := hk45
  replace hk46 : List.length p1 < 1 ∨ List.length p1 > 12 ∨ r40 = 0 := hk46
  refine WL.valG (v := .bool (decide (r40 = 0))) rfl rfl (decide_eq_true h34) rfl (Yl.kern rfl rfl (fun _ => by kernel_rfl)) (WL.val (v := .bool (decide (r40 = 0))) rfl (Yl.pickT rfl (decide_eq_true h34) rfl) (Mv rfl rfl ?_))
  by_cases h47 : r40 = 0
  refine WL.valG (v := .pointer (some ⟨g21, 0, none⟩)) rfl rfl (decide_eq_true h47) rfl (Yl.kern rfl rfl (fun _ => by kernel_rfl)) (WL.valG (v := .string ⟨List.toArray p0.xLo⟩) rfl rfl (decide_eq_true h47) rfl (Yl.load rfl (Lds.one Try.isAgg9 (Cls.of (H44.cls (i := 0) rfl) rfl))) (WL.valG (v := .string ⟨List.toArray p1⟩) rfl rfl (decide_eq_true h47) rfl (Yl.move rfl) (WL.valG (v := .bool (decide (p0.xLo ≤ p1))) rfl rfl (decide_eq_true h47) rfl (Yl.bool (e := Op.bytesLess p0.xLo p1 || decide (p0.xLo = p1)) (Yl.strLe rfl rfl) (bl_le _ _)) (WL.val (v := .bool (decide (p0.xLo ≤ p1))) rfl (Yl.pickT rfl (decide_eq_true h47) rfl) (Mv rfl rfl ?_)))))
  by_cases h48 : p0.xLo ≤ p1
  refine WL.valG (v := .string ⟨List.toArray p1⟩) rfl rfl (decide_eq_true h48) rfl (Yl.move rfl) (WL.valG (v := .pointer (some ⟨g21, 1, none⟩)) rfl rfl (decide_eq_true h48) rfl (Yl.kern rfl rfl (fun _ => by kernel_rfl)) (WL.valG (v := .string ⟨List.toArray p0.xHi⟩) rfl rfl (decide_eq_true h48) rfl (Yl.load rfl (Lds.one Try.isAgg9 (Cls.of (H44.cls (i := 0) rfl) rfl))) ?_))
  obtain ⟨r54, hr55⟩ : ∃ q, span_below p1 p0.xHi = q := ⟨_, rfl⟩
  obtain ⟨D49, HP50, ro51, bk52, rr53⟩ := Own.enter0 H44
  refine WL.doG rfl rfl (decide_eq_true h48) rfl (Do.call Try.call55 rfl (span_below_ok _ _ p1 p0.xHi r54 HP50 hr55) ?_)
  rintro _ w56 ⟨rfl, HQ57⟩
  have H58 : Own w D w56 [blk g21 (RangeD.cells p0) 24] := bk52 _ _ HQ57
  refine WL.val (v := .bool r54) rfl (Yl.pickT rfl (decide_eq_true h48) rfl) (As rfl rfl (WL.nil (Fin.then (Wp.ret (Fin.res (res1 rfl rfl) ?_)))))
  have H59 : Own w D w56 [] := H58.pick [] (by decide) rfl
  have e : span_Has p0 p1 = r54 := Eq.trans (bnd_of hr30) (Eq.trans (if_pos h34) (Eq.trans (bnd_of hr41) (Eq.trans (if_pos h47) (Eq.trans (if_pos h48) (bnd_of hr55)))))
  obtain rfl := e.symm.trans hr
  exact ⟨rfl, H59⟩
  refine Sk rfl rfl (decide_eq_false h48) rfl (Sk rfl rfl (decide_eq_false h48) rfl (Sk rfl rfl (decide_eq_false h48) rfl (Sk rfl rfl (decide_eq_false h48) rfl (WL.val (v := .bool false) rfl (Yl.pickF rfl (decide_eq_false h48) rfl) (As rfl rfl (WL.nil (Fin.then (Wp.ret (Fin.res (res1 rfl rfl) ?_)))))))))
  have H60 : Own w D w42 [] := H44.pick [] (by decide) rfl
  have e : span_Has p0 p1 = false := Eq.trans (bnd_of hr30) (Eq.trans (if_pos h34) (Eq.trans (bnd_of hr41) (Eq.trans (if_pos h47) (if_neg h48))))
  obtain rfl := e.symm.trans hr
  exact ⟨rfl, H60⟩
  refine Sk rfl rfl (decide_eq_false h47) rfl (Sk rfl rfl (decide_eq_false h47) rfl (Sk rfl rfl (decide_eq_false h47) rfl (Sk rfl rfl (decide_eq_false h47) rfl (WL.val (v := .bool false) rfl (Yl.pickF rfl (decide_eq_false h47) rfl) (Mv rfl rfl (Sk rfl rfl rfl rfl (Sk rfl rfl rfl rfl (Sk rfl rfl rfl rfl (Sk rfl rfl rfl rfl (WL.val (v := .bool false) rfl (Yl.pickF rfl rfl rfl) (As rfl rfl (WL.nil (Fin.then (Wp.ret (Fin.res (res1 rfl rfl) ?_)))))))))))))))
  have H61 : Own w D w42 [] := H44.pick [] (by decide) rfl
  have e : span_Has p0 p1 = false := Eq.trans (bnd_of hr30) (Eq.trans (if_pos h34) (Eq.trans (bnd_of hr41) (if_neg h47)))
  obtain rfl := e.symm.trans hr
  exact ⟨rfl, H61⟩
  refine Sk rfl rfl (decide_eq_false h34) rfl (Sk rfl rfl (decide_eq_false h34) rfl (Sk rfl rfl (decide_eq_false h34) rfl (WL.val (v := .bool false) rfl (Yl.pickF rfl (decide_eq_false h34) rfl) (Mv rfl rfl (Sk rfl rfl rfl rfl (Sk rfl rfl rfl rfl (Sk rfl rfl rfl rfl (Sk rfl rfl rfl rfl (WL.val (v := .bool false) rfl (Yl.pickF rfl rfl rfl) (Mv rfl rfl (Sk rfl rfl rfl rfl (Sk rfl rfl rfl rfl (Sk rfl rfl rfl rfl (Sk rfl rfl rfl rfl (WL.val (v := .bool false) rfl (Yl.pickF rfl rfl rfl) (As rfl rfl (WL.nil (Fin.then (Wp.ret (Fin.res (res1 rfl rfl) ?_))))))))))))))))))))
  have H62 : Own w D w31 [] := H33.pick [] (by decide) rfl
  have e : span_Has p0 p1 = false := Eq.trans (bnd_of hr30) (if_neg h34)
  obtain rfl := e.symm.trans hr
  exact ⟨rfl, H62⟩
end Go.Proofs.Ytcjjblkgbfaapaa
