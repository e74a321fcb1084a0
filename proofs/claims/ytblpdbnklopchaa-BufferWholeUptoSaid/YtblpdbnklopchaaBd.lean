/-
  buffer: parted at pivots.
-/
import Derived.Test.YtblpdbnklopchaaBc
namespace Go.Proofs.Ytblpdbnklopchaa
open Go.RowKit
set_option linter.unusedVariables false
set_option linter.unusedSectionVars false
set_option linter.unusedSimpArgs false

/-- How many each row has behind K of what is dealt out, and of the next one to the j first. -/
def rl {α : Type} (l : List (Ll α)) (K j : Nat) : Prop := ∀ i y, l[i]? = some y → y.ls.length ≤ K + min 1 (j - i)
theorem rl_rep {α : Type} (n K : Nat) : rl (List.replicate n (Ll.mk [] : Ll α)) K 0 := fun i y h => by
  rw [(List.mem_replicate.1 (List.mem_of_getElem? h)).2]
  exact Nat.zero_le _
theorem rl_end {α : Type} {l : List (Ll α)} {K j : Nat} (h : rl l K j) : rl l (K + 1) 0 := fun i y hy => by
  have := h i y hy
  omega
theorem rl_at {α : Type} {l : List (Ll α)} {K j : Nat} {x : Ll α} (h : rl l K j) (hx : l[j]? = some x) : x.ls.length ≤ K := by
  have := h j x hx
  omega
theorem rl_skip {α : Type} {l : List (Ll α)} {K j : Nat} (h : rl l K j) : rl l K (j + 1) := fun i y hy => by
  have := h i y hy
  omega
theorem rl_set {α : Type} {l : List (Ll α)} {K j : Nat} {x : Ll α} {e : α} (h : rl l K j) (hx : l[j]? = some x) : rl (List.set l j (Ll.mk (x.ls ++ [e]))) K (j + 1) := fun i y hy => by
  by_cases hij : j = i
  · subst hij
    have h1 := rl_at h hx
    rw [List.getElem?_set_self (List.getElem?_eq_some_iff.1 hx).1, Option.some.injEq] at hy
    subst hy
    show (x.ls ++ [e]).length ≤ _
    rw [List.length_append, List.length_singleton]
    omega
  · rw [List.getElem?_set_ne hij] at hy
    have := h i y hy
    omega
theorem rl_put {α : Type} {l : List (Ll α)} {K j : Nat} {x : Ll α} {e : α} (h : rl l K 0) (hx : l[j]? = some x) : rl (List.set l j (Ll.mk (x.ls ++ [e]))) (K + 1) 0 := fun i y hy => by
  by_cases hij : j = i
  · subst hij
    have h1 := h _ _ hx
    rw [List.getElem?_set_self (List.getElem?_eq_some_iff.1 hx).1, Option.some.injEq] at hy
    subst hy
    show (x.ls ++ [e]).length ≤ _
    rw [List.length_append, List.length_singleton]
    omega
  · rw [List.getElem?_set_ne hij] at hy
    have := h i y hy
    omega
theorem rl_nil {α : Type} (K : Nat) : rl ([] : List (Ll α)) K 0 := fun i y hy => by
  rw [List.getElem?_nil] at hy; cases hy
theorem rl_mono {α : Type} {l : List (Ll α)} {K K' : Nat} (h : rl l K 0) (hk : K ≤ K') : rl l K' 0 := fun i y hy => by
  have := h i y hy
  omega
theorem rl_at0 {α : Type} {l : List (Ll α)} {K j : Nat} {x : Ll α} (h : rl l K 0) (hx : l[j]? = some x) : x.ls.length ≤ K := by
  have := h j x hx
  omega

theorem El30 : Elem Try.prog 30 9 1 16 := elem_of (z := .string ⟨List.toArray ([])⟩) Try.underlying30 (by kernel_rfl) rfl (by decide)

def buffer_checkPivots_L0 (l0 : List (List UInt8)) : List (List UInt8) → Nat → Unit ⊕ Int
  | [], k21 => Sum.inl ()
  | x30 :: q22, k21 => bnd (span_CheckKey x30) fun yr38 => if yr38 = 0 then if ((k21 : Nat) : Int) > 0 then bnd (List.getD l0 (k21 - 1) default) fun yx46 => if x30 ≤ yx46 then Sum.inr (20) else buffer_checkPivots_L0 l0 q22 (k21 + 1) else buffer_checkPivots_L0 l0 q22 (k21 + 1) else Sum.inr (20)

def buffer_checkPivots (l0 : List (List UInt8)) : Int :=
  lp (buffer_checkPivots_L0 l0 l0 0) fun _ => 0

set_option maxRecDepth 100000 in
theorem buffer_checkPivots_ok (w : World) (D : Nat → Prop) (A0 : Option Addr) (n0 c0 : Nat) (l0 : List (List UInt8)) (r0 : Int) (H : Own w D w []) (hx0 : Ro w D fun w' => Rds w' 1 A0 n0 (List.flatMap eS l0)) (hn0 : n0 = l0.length) (hl0 : l0.length * 16 ≤ 211106232532992) (hr : buffer_checkPivots l0 = r0) :
    Calls Try.prog 31 #[.slice A0 n0 c0] w (Ret fun v w' => v = .int .i64 r0 ∧ Own w D w' []) := by
  subst hn0
  refine Calls.body (args := [.slice A0 l0.length c0]) Try.func31 rfl rfl rfl ?_
  show Wp _ _ _ [(0, .slice A0 l0.length c0)] _ _
  refine Wp.seq (Wp.region (As rfl rfl (WL.nil (Fin.then (Wp.seq (Wp.seq (Wp.region (Mv rfl rfl (Kn (v := .int .i64 ((l0.length : Nat) : Int)) rfl rfl rfl (fun _ => by kernel_rfl) (Mv rfl rfl (WL.nil (Fin.then (Wp.block ?_)))))))))))))
  have H23 : Own w D w [] := H.pick [] (by decide) rfl
  refine Wp.loop (ι := Nat) (fun i => [(2, .int .i64 0), (7, .int .i64 ((i : Nat) : Int)), (6, .int .i64 ((l0.length : Nat) : Int)), (5, .slice A0 l0.length c0), (0, .slice A0 l0.length c0)]) (fun (i : Nat) w' => Own w D w' [] ∧ (i ≤ l0.length ∧ buffer_checkPivots_L0 l0 l0 0 = buffer_checkPivots_L0 l0 (List.drop i l0) i)) (fun i => l0.length - i) 0 ⟨rfl, rfl, rfl, rfl, rfl, trivial⟩ ⟨H23, (show 0 ≤ l0.length ∧ buffer_checkPivots_L0 l0 l0 0 = buffer_checkPivots_L0 l0 (List.drop 0 l0) 0 from ⟨by omega, rfl⟩)⟩ ?_
  rintro k21 w24 ⟨H25, hf26⟩
  show Wp _ _ _ [(2, .int .i64 0), (7, .int .i64 ((k21 : Nat) : Int)), (6, .int .i64 ((l0.length : Nat) : Int)), (5, .slice A0 l0.length c0), (0, .slice A0 l0.length c0)] _ _
  replace hf26 : k21 ≤ l0.length ∧ buffer_checkPivots_L0 l0 l0 0 = buffer_checkPivots_L0 l0 (List.drop k21 l0) k21 := hf26
  obtain ⟨hi28, hq27⟩ := hf26
  refine Wp.seq (Wp.region (Kn (v := .bool (decide (((k21 : Nat) : Int) < ((l0.length : Nat) : Int)))) rfl rfl rfl (fun _ => by kernel_rfl) (WL.nil (Fin.then (Wp.seq ?_)))))
  by_cases h29 : ((k21 : Nat) : Int) < ((l0.length : Nat) : Int)
  obtain ⟨x30, hx31⟩ := rds_at (ls := l0) (i := k21) eS_len (by decide) (H25.ro hx0) (by first | omega | (simp; done) | (simp; omega))
  have hd32 := drop_at hx31
  refine Wp.cond1 rfl (decide_eq_true h29) (Wp.skip (Fin.then (Wp.seq (Wp.block (Wp.seq (Wp.region (Mv rfl rfl (WL.val (v := .pointer (some ⟨ab A0, ao A0 + k21 * 1, none⟩)) rfl (Yl.indexAddr (El30) rfl rfl ((H25.ro hx0).addr (i := k21) (by omega)) (by omega)) (WL.val (v := .string ⟨List.toArray x30⟩) rfl (Yl.load rfl (Lds.one Try.isAgg9 (((H25.ro hx0).elem eS_len hx31 (by decide)).at_ (k := 0) rfl))) (As rfl rfl (As rfl rfl (WL.nil (Fin.then (Wp.seq (Wp.region (Mv rfl rfl ?_))))))))))))))))
  obtain ⟨r38, hr39⟩ : ∃ q, span_CheckKey x30 = q := ⟨_, rfl⟩
  obtain ⟨D33, HP34, ro35, bk36, rr37⟩ := Own.enter0 H25
  refine WL.do rfl (Do.call Try.call39 rfl (span_CheckKey_ok _ _ x30 r38 HP34 hr39) ?_)
  rintro _ w40 ⟨rfl, HQ41, hk43⟩
  have H42 := bk36 _ _ HQ41
  replace hk43 : ¬ (r38 = 0) ∨ (1 ≤ x30.length ∧ x30.length ≤ 12) := hk43
  refine WL.val (v := .bool (decide (¬ (r38 = 0)))) rfl (Yl.bool (e := !(decide (r38 = 0))) (Yl.kern rfl rfl (fun _ => by kernel_rfl)) decide_not.symm) (Mv rfl rfl ?_)
  by_cases h44 : r38 = 0
  refine WL.valG (v := .int .i64 ((k21 : Nat) : Int)) rfl rfl (decide_eq_false (not_not_intro h44)) rfl (Yl.move rfl) (WL.valG (v := .bool (decide (((k21 : Nat) : Int) > 0))) rfl rfl (decide_eq_false (not_not_intro h44)) rfl (Yl.kern rfl rfl (fun _ => by kernel_rfl)) (WL.valG (v := .bool (decide (((k21 : Nat) : Int) > 0))) rfl rfl (decide_eq_false (not_not_intro h44)) rfl (Yl.move rfl) ?_))
  by_cases h45 : ((k21 : Nat) : Int) > 0
  refine WL.valG (v := .string ⟨List.toArray x30⟩) rfl rfl (decide_eq_true h45) rfl (Yl.move rfl) (WL.valG (v := .slice A0 l0.length c0) rfl rfl (decide_eq_true h45) rfl (Yl.move rfl) (WL.valG (v := .int .i64 ((k21 : Nat) : Int)) rfl rfl (decide_eq_true h45) rfl (Yl.move rfl) (WL.valG (v := .int .i64 ((k21 - 1 : Nat) : Int)) rfl rfl (decide_eq_true h45) rfl (Yl.int (e := IntKind.i64.wrap (((k21 : Nat) : Int) - 1)) (Yl.kern rfl rfl (fun _ => by kernel_rfl)) (by rw [IntWalk.i64_in _ (by omega)]; omega)) ?_)))
  obtain ⟨x46, hx47⟩ := rds_at (ls := l0) (i := k21 - 1) eS_len (by decide) (H42.ro hx0) (by first | omega | (simp; done) | (simp; omega))
  refine WL.valG (v := .pointer (some ⟨ab A0, ao A0 + (k21 - 1) * 1, none⟩)) rfl rfl (decide_eq_true h45) rfl (Yl.indexAddr (El30) rfl rfl ((H42.ro hx0).addr (i := k21 - 1) (by omega)) (by omega)) (WL.valG (v := .string ⟨List.toArray x46⟩) rfl rfl (decide_eq_true h45) rfl (Yl.load rfl (Lds.one Try.isAgg9 (((H42.ro hx0).elem eS_len hx47 (by decide)).at_ (k := 0) rfl))) (WL.valG (v := .bool (decide (x30 ≤ x46))) rfl rfl (decide_eq_true h45) rfl (Yl.bool (e := Op.bytesLess x30 x46 || decide (x30 = x46)) (Yl.strLe rfl rfl) (bl_le _ _)) (WL.valG (v := .bool (decide (x30 ≤ x46))) rfl rfl (decide_eq_false (not_not_intro h44)) rfl (Yl.pickT rfl (decide_eq_true h45) rfl) (WL.val (v := .bool (decide (x30 ≤ x46))) rfl (Yl.pickF rfl (decide_eq_false (not_not_intro h44)) rfl) (WL.nil (Fin.then ?_))))))
  by_cases h48 : x30 ≤ x46
  refine Wp.cond1 rfl (decide_eq_true h48) (Wp.seq (Wp.region (As rfl rfl (WL.nil (Fin.then (Wp.ret (Fin.blockR (Fin.thenR (Fin.thenR (Fin.blockR (Fin.thenR (Fin.res (res1 rfl rfl) ?_))))))))))))
  have H49 := H42.pick [] (by decide) rfl
  have e : buffer_checkPivots l0 = 20 := lp_r (Eq.trans (hq27) (Eq.trans (congrArg (fun q => buffer_checkPivots_L0 l0 q k21) hd32) (Eq.trans (bnd_of hr39) (Eq.trans (if_pos h44) (Eq.trans (if_pos h45) (Eq.trans (bnd_of (getD_of hx47)) (if_pos h48)))))))
  obtain rfl := e.symm.trans hr
  exact ⟨rfl, H49⟩
  refine Wp.cond0 rfl (decide_eq_false h48) (Wp.skip (Fin.blockN (Fin.then (Wp.region (WL.val (v := .int .i64 ((k21 + 1 : Nat) : Int)) rfl (Yl.int (e := IntKind.i64.wrap (((k21 : Nat) : Int) + 1)) (Yl.kern rfl rfl (fun _ => by kernel_rfl)) (by rw [IntWalk.i64_in _ (by omega)]; omega)) (Mv rfl rfl (WL.nil ?_)))))))
  have H50 := H42.pick [] (by decide) rfl
  exact Fin.round (k21 + 1) ⟨rfl, rfl, rfl, rfl, rfl, trivial⟩ ⟨H50, (show (k21 + 1) ≤ l0.length ∧ buffer_checkPivots_L0 l0 l0 0 = buffer_checkPivots_L0 l0 (List.drop (k21 + 1) l0) (k21 + 1) from ⟨by omega, Eq.trans (hq27) (Eq.trans (congrArg (fun q => buffer_checkPivots_L0 l0 q k21) hd32) (Eq.trans (bnd_of hr39) (Eq.trans (if_pos h44) (Eq.trans (if_pos h45) (Eq.trans (bnd_of (getD_of hx47)) (if_neg h48))))))⟩)⟩ (by show l0.length - (k21 + 1) < l0.length - k21; omega)
  refine Sk rfl rfl (decide_eq_false h45) rfl (Sk rfl rfl (decide_eq_false h45) rfl (Sk rfl rfl (decide_eq_false h45) rfl (Sk rfl rfl (decide_eq_false h45) rfl (Sk rfl rfl (decide_eq_false h45) rfl (Sk rfl rfl (decide_eq_false h45) rfl (Sk rfl rfl (decide_eq_false h45) rfl (WL.valG (v := .bool false) rfl rfl (decide_eq_false (not_not_intro h44)) rfl (Yl.pickF rfl (decide_eq_false h45) rfl) (WL.val (v := .bool false) rfl (Yl.pickF rfl (decide_eq_false (not_not_intro h44)) rfl) (WL.nil (Fin.then (Wp.cond0 rfl rfl (Wp.skip (Fin.blockN (Fin.then (Wp.region (WL.val (v := .int .i64 ((k21 + 1 : Nat) : Int)) rfl (Yl.int (e := IntKind.i64.wrap (((k21 : Nat) : Int) + 1)) (Yl.kern rfl rfl (fun _ => by kernel_rfl)) (by rw [IntWalk.i64_in _ (by omega)]; omega)) (Mv rfl rfl (WL.nil ?_))))))))))))))))))
  have H51 := H42.pick [] (by decide) rfl
  exact Fin.round (k21 + 1) ⟨rfl, rfl, rfl, rfl, rfl, trivial⟩ ⟨H51, (show (k21 + 1) ≤ l0.length ∧ buffer_checkPivots_L0 l0 l0 0 = buffer_checkPivots_L0 l0 (List.drop (k21 + 1) l0) (k21 + 1) from ⟨by omega, Eq.trans (hq27) (Eq.trans (congrArg (fun q => buffer_checkPivots_L0 l0 q k21) hd32) (Eq.trans (bnd_of hr39) (Eq.trans (if_pos h44) (if_neg h45))))⟩)⟩ (by show l0.length - (k21 + 1) < l0.length - k21; omega)
  refine Sk rfl rfl (decide_eq_true h44) rfl (Sk rfl rfl (decide_eq_true h44) rfl (Sk rfl rfl (decide_eq_true h44) rfl (WL.skipU rfl rfl rfl (WL.skipU rfl rfl rfl (WL.skipU rfl rfl rfl (WL.skipU rfl rfl rfl (WL.skipU rfl rfl rfl (WL.skipU rfl rfl rfl (WL.skipU rfl rfl rfl (Sk rfl rfl (decide_eq_true h44) rfl (WL.val (v := .bool true) rfl (Yl.pickT rfl (decide_eq_true h44) rfl) (WL.nil (Fin.then (Wp.cond1 rfl rfl (Wp.seq (Wp.region (As rfl rfl (WL.nil (Fin.then (Wp.ret (Fin.blockR (Fin.thenR (Fin.thenR (Fin.blockR (Fin.thenR (Fin.res (res1 rfl rfl) ?_))))))))))))))))))))))))))
  have H52 := H42.pick [] (by decide) rfl
  have e : buffer_checkPivots l0 = 20 := lp_r (Eq.trans (hq27) (Eq.trans (congrArg (fun q => buffer_checkPivots_L0 l0 q k21) hd32) (Eq.trans (bnd_of hr39) (if_neg h44))))
  obtain rfl := e.symm.trans hr
  exact ⟨rfl, H52⟩
  refine Wp.cond0 rfl (decide_eq_false h29) (Wp.exit (Fin.thenX ?_))
  have hL53 : buffer_checkPivots_L0 l0 l0 0 = Sum.inl () := Eq.trans (hq27) (Eq.trans (congrArg (fun q => buffer_checkPivots_L0 l0 q k21) (drop_end (ls := l0) (i := k21) (by omega))) rfl)
  refine Fin.thenX (Fin.blockX (Fin.then (Wp.seq (Wp.region (As rfl rfl (WL.nil (Fin.then (Wp.ret (Fin.res (res1 rfl rfl) ?_)))))))))
  have H54 := H25.pick [] (by decide) rfl
  have e : buffer_checkPivots l0 = 0 := lp_l hL53
  obtain rfl := e.symm.trans hr
  exact ⟨rfl, H54⟩

def buffer_partRange (l0 : List (List UInt8)) (p1 : Int) : RangeD :=
  bnd (if p1 > 0 then bnd (List.getD l0 (Int.toNat (p1 - 1)) default) fun yx29 => yx29 else []) fun sJrJ => if p1 < ((l0.length : Nat) : Int) then bnd (List.getD l0 (Int.toNat p1) default) fun yx40 => RangeD.mk sJrJ yx40 else RangeD.mk sJrJ ([])

set_option maxRecDepth 100000 in
theorem buffer_partRange_ok (w : World) (D : Nat → Prop) (A0 : Option Addr) (n0 c0 : Nat) (l0 : List (List UInt8)) (p1 : Int) (r0 : RangeD) (H : Own w D w []) (hx0 : Ro w D fun w' => Rds w' 1 A0 n0 (List.flatMap eS l0)) (hn0 : n0 = l0.length) (hl0 : l0.length * 16 ≤ 211106232532992) (hh0 : 0 ≤ p1 ∧ p1 ≤ ((l0.length : Nat) : Int)) (hr : buffer_partRange l0 p1 = r0) :
    Calls Try.prog 36 #[.slice A0 n0 c0, .int .i64 p1] w (Ret fun v w' => v = .agg (RangeD.cells r0).toArray ∧ Own w D w' []) := by
  subst hn0
  refine Calls.body (args := [.slice A0 l0.length c0, .int .i64 p1]) Try.func36 rfl rfl rfl ?_
  show Wp _ _ _ [(0, .slice A0 l0.length c0), (1, .int .i64 p1)] _ _
  refine Wp.seq (Wp.region ?_)
  refine WL.do rfl (Do.newP (cs := [.string ⟨List.toArray ([])⟩, .string ⟨List.toArray ([])⟩]) (t := 38) H rfl rfl (fun _ => by kernel_rfl) ?_)
  intro g21 w22 H23
  refine WL.nil (Fin.then (Wp.seq (Wp.region ?_)))
  refine WL.do rfl (Do.newP (cs := [.string ⟨List.toArray ([])⟩, .string ⟨List.toArray ([])⟩]) (t := 38) H23 rfl rfl (fun _ => by kernel_rfl) ?_)
  intro g24 w25 H26
  refine WL.nil (Fin.then (Wp.seq (Wp.seq (Wp.region (Mv rfl rfl (Kn (v := .bool (decide (p1 > 0))) rfl rfl rfl (fun _ => by kernel_rfl) (WL.nil (Fin.then ?_))))))))
  refine Wp.joinT (ι := (List UInt8)) (fun i => [(5, .pointer (some ⟨g24, 0, none⟩)), (4, .pointer (some ⟨g21, 0, none⟩)), (0, .slice A0 l0.length c0), (1, .int .i64 p1)]) (fun (i : (List UInt8)) w' => Own w D w' [blk g24 [.string ⟨List.toArray i⟩, .string ⟨List.toArray ([])⟩] 38, blk g21 [.string ⟨List.toArray ([])⟩, .string ⟨List.toArray ([])⟩] 38] ∧ ((if p1 > 0 then bnd (List.getD l0 (Int.toNat (p1 - 1)) default) fun yx29 => yx29 else []) = i)) ?_ ?_
  by_cases h28 : p1 > 0
  refine Wp.cond1 rfl (decide_eq_true h28) (Wp.region (Mv rfl rfl (Mv rfl rfl (WL.val (v := .int .i64 ((Int.toNat (p1 - 1) : Nat) : Int)) rfl (Yl.int (e := IntKind.i64.wrap (p1 - 1)) (Yl.kern rfl rfl (fun _ => by kernel_rfl)) (by rw [IntWalk.i64_in _ (by omega)]; omega)) ?_))))
  obtain ⟨x29, hx30⟩ := rds_at (ls := l0) (i := Int.toNat (p1 - 1)) eS_len (by decide) (H26.ro hx0) (by first | omega | (simp; done) | (simp; omega))
  refine WL.val (v := .pointer (some ⟨ab A0, ao A0 + (Int.toNat (p1 - 1)) * 1, none⟩)) rfl (Yl.indexAddr (El30) rfl rfl ((H26.ro hx0).addr (i := Int.toNat (p1 - 1)) (by omega)) (by omega)) (WL.val (v := .string ⟨List.toArray x29⟩) rfl (Yl.load rfl (Lds.one Try.isAgg9 (((H26.ro hx0).elem eS_len hx30 (by decide)).at_ (k := 0) rfl))) (Kn (v := .pointer (some ⟨g24, 0, none⟩)) rfl rfl rfl (fun _ => by kernel_rfl) ?_))
  refine WL.do0 (Do.store (vs := [.string ⟨List.toArray x29⟩]) (o := 0) H26 rfl rfl Try.sizeOf9 rfl rfl rfl rfl ?_)
  intro w31 H32
  refine WL.nil ?_
  have H33 := H32.pick [0, 1] (by decide) rfl
  exact Fin.join x29 ⟨rfl, rfl, rfl, rfl, trivial⟩ ⟨H33, (show (if p1 > 0 then bnd (List.getD l0 (Int.toNat (p1 - 1)) default) fun yx29 => yx29 else []) = x29 from Eq.trans (if_pos h28) (bnd_of (getD_of hx30)))⟩
  refine Wp.cond0 rfl (decide_eq_false h28) (Wp.skip ?_)
  have H34 := H26.pick [0, 1] (by decide) rfl
  exact Fin.join ([]) ⟨rfl, rfl, rfl, rfl, trivial⟩ ⟨H34, (show (if p1 > 0 then bnd (List.getD l0 (Int.toNat (p1 - 1)) default) fun yx29 => yx29 else []) = ([]) from if_neg h28)⟩
  rintro s27 w35 ⟨H36, hf37⟩
  show Wp _ _ _ [(5, .pointer (some ⟨g24, 0, none⟩)), (4, .pointer (some ⟨g21, 0, none⟩)), (0, .slice A0 l0.length c0), (1, .int .i64 p1)] _ _
  replace hf37 : (if p1 > 0 then bnd (List.getD l0 (Int.toNat (p1 - 1)) default) fun yx29 => yx29 else []) = s27 := hf37
  have hj38 := hf37
  refine Wp.seq (Wp.seq (Wp.region (Mv rfl rfl (Mv rfl rfl (Kn (v := .int .i64 ((l0.length : Nat) : Int)) rfl rfl rfl (fun _ => by kernel_rfl) (Kn (v := .bool (decide (p1 < ((l0.length : Nat) : Int)))) rfl rfl rfl (fun _ => by kernel_rfl) (WL.nil (Fin.then ?_))))))))
  by_cases h39 : p1 < ((l0.length : Nat) : Int)
  refine Wp.cond1 rfl (decide_eq_true h39) (Wp.region (Mv rfl rfl (WL.val (v := .int .i64 ((Int.toNat p1 : Nat) : Int)) rfl (Yl.int (e := p1) (Yl.move rfl) (by omega)) ?_)))
  obtain ⟨x40, hx41⟩ := rds_at (ls := l0) (i := Int.toNat p1) eS_len (by decide) (H36.ro hx0) (by first | omega | (simp; done) | (simp; omega))
  refine WL.val (v := .pointer (some ⟨ab A0, ao A0 + (Int.toNat p1) * 1, none⟩)) rfl (Yl.indexAddr (El30) rfl rfl ((H36.ro hx0).addr (i := Int.toNat p1) (by omega)) (by omega)) (WL.val (v := .string ⟨List.toArray x40⟩) rfl (Yl.load rfl (Lds.one Try.isAgg9 (((H36.ro hx0).elem eS_len hx41 (by decide)).at_ (k := 0) rfl))) (Kn (v := .pointer (some ⟨g24, 1, none⟩)) rfl rfl rfl (fun _ => by kernel_rfl) ?_))
  refine WL.do0 (Do.store (vs := [.string ⟨List.toArray x40⟩]) (o := 1) H36 rfl rfl Try.sizeOf9 rfl rfl rfl rfl ?_)
  intro w42 H43
  refine WL.nil (Fin.then (Wp.seq (Wp.region (WL.val (v := .agg #[.string ⟨List.toArray s27⟩, .string ⟨List.toArray x40⟩]) rfl (Yl.load rfl (Lds.agg (cs := [.string ⟨List.toArray s27⟩, .string ⟨List.toArray x40⟩]) Try.isAgg38 Try.sizeOf38 ((H43.cls (i := 0) rfl).lit (k := 0) (m := 2) rfl))) ?_))))
  have H44 := H43.pick [1, 0] (by decide) rfl
  refine WL.do0 (Do.store (vs := [.string ⟨List.toArray s27⟩, .string ⟨List.toArray x40⟩]) (o := 0) H44 rfl rfl Try.sizeOf38 rfl rfl rfl rfl ?_)
  intro w45 H46
  refine WL.nil (Fin.then (Wp.ret (Fin.res (resC rfl rfl (Lds.agg (cs := [.string ⟨List.toArray s27⟩, .string ⟨List.toArray x40⟩]) Try.isAgg38 Try.sizeOf38 ((H46.cls (i := 0) rfl).lit (k := 0) (m := 2) rfl))) ?_)))
  have H47 := H46.pick [] (by decide) rfl
  have e : buffer_partRange l0 p1 = RangeD.mk s27 x40 := Eq.trans (bnd_of hj38) (Eq.trans (if_pos h39) (bnd_of (getD_of hx41)))
  obtain rfl := e.symm.trans hr
  exact ⟨rfl, H47⟩
  refine Wp.cond0 rfl (decide_eq_false h39) (Wp.skip (Fin.then (Wp.seq (Wp.region (WL.val (v := .agg #[.string ⟨List.toArray s27⟩, .string ⟨List.toArray ([])⟩]) rfl (Yl.load rfl (Lds.agg (cs := [.string ⟨List.toArray s27⟩, .string ⟨List.toArray ([])⟩]) Try.isAgg38 Try.sizeOf38 ((H36.cls (i := 0) rfl).lit (k := 0) (m := 2) rfl))) ?_)))))
  have H48 := H36.pick [1, 0] (by decide) rfl
  refine WL.do0 (Do.store (vs := [.string ⟨List.toArray s27⟩, .string ⟨List.toArray ([])⟩]) (o := 0) H48 rfl rfl Try.sizeOf38 rfl rfl rfl rfl ?_)
  intro w49 H50
  refine WL.nil (Fin.then (Wp.ret (Fin.res (resC rfl rfl (Lds.agg (cs := [.string ⟨List.toArray s27⟩, .string ⟨List.toArray ([])⟩]) Try.isAgg38 Try.sizeOf38 ((H50.cls (i := 0) rfl).lit (k := 0) (m := 2) rfl))) ?_)))
  have H51 := H50.pick [] (by decide) rfl
  have e : buffer_partRange l0 p1 = RangeD.mk s27 ([]) := Eq.trans (bnd_of hj38) (if_neg h39)
  obtain rfl := e.symm.trans hr
  exact ⟨rfl, H51⟩

theorem El31 : Elem Try.prog 31 22 1 24 := elem_of (z := .slice none 0 0) Try.underlying31 (by kernel_rfl) rfl (by decide)

abbrev Row22D := Sv EntryD

def Row22D.abs (x : Row22D) : Ll EntryD := ⟨x.ls⟩

def Row22D.own (x : Row22D) : List HP := [row x.A x.ls.length x.c (List.flatMap EntryD.cells x.ls) 52 7]

def sort_Search_L0 (p1c0 : List (List UInt8)) (p1c1 : EntryD) : Nat → Nat → Int → Nat
  | 0, k21, z22 => default
  | q23 + 1, k21, z22 => if ((k21 : Nat) : Int) < z22 then bnd (List.getD p1c0 ((Int.toNat (((k21 : Nat) : Int) + z22)) / 2) default) fun yx38 => if p1c1.xOp.xKey < yx38 then sort_Search_L0 p1c0 p1c1 q23 k21 (((Int.toNat (((k21 : Nat) : Int) + z22)) / 2 : Nat) : Int) else sort_Search_L0 p1c0 p1c1 q23 (((Int.toNat (((k21 : Nat) : Int) + z22)) / 2) + 1) z22 else k21

def sort_Search (p0 : Int) (p1c0 : List (List UInt8)) (p1c1 : EntryD) : Int :=
  bnd (sort_Search_L0 p1c0 p1c1 ((Int.toNat (p0 - ((0 : Nat) : Int))) + 1) 0 p0) fun sLrL => ((sLrL : Nat) : Int)

set_option maxRecDepth 100000 in
theorem sort_Search_ok (w : World) (D : Nat → Prop) (p0 : Int) (g1c0 : Nat) (p1c0 : List (List UInt8)) (A1c0x0 : Option Addr) (c1c0x0 : Nat) (g1c1 : Nat) (p1c1 : EntryD) (r0 : Int) (H : Own w D w [blk g1c0 [.slice A1c0x0 p1c0.length c1c0x0] 30, blk g1c1 (EntryD.cells p1c1) 52]) (hx1c0x0 : Ro w D fun w' => Rds w' 1 A1c0x0 p1c0.length (List.flatMap eS p1c0)) (hb1c0x0 : p1c0.length ≤ c1c0x0 ∧ p1c0.length ≤ 9223372036854775807) (hh0 : 0 ≤ p0 ∧ p0 ≤ ((p1c0.length : Nat) : Int) ∧ p0 ≤ 4611686018427387903) (hr : sort_Search p0 p1c0 p1c1 = r0) :
    Calls Try.prog 32 #[.int .i64 p0, .func (.func 33) #[] #[.pointer (some ⟨g1c0, 0, none⟩), .pointer (some ⟨g1c1, 0, none⟩)]] w (Ret fun v w' => v = .int .i64 r0 ∧ Own w D w' [blk g1c0 [.slice A1c0x0 p1c0.length c1c0x0] 30, blk g1c1 (EntryD.cells p1c1) 52] ∧ (0 ≤ r0 ∧ r0 ≤ p0)) := by
  refine Calls.body (args := [.int .i64 p0, .func (.func 33) #[] #[.pointer (some ⟨g1c0, 0, none⟩), .pointer (some ⟨g1c1, 0, none⟩)]]) Try.func32 rfl rfl rfl ?_
  show Wp _ _ _ [(0, .int .i64 p0), (1, .func (.func 33) #[] #[.pointer (some ⟨g1c0, 0, none⟩), .pointer (some ⟨g1c1, 0, none⟩)])] _ _
  refine Wp.seq (Wp.region (As rfl rfl (WL.nil (Fin.then (Wp.seq (Wp.region (Mv rfl rfl (As rfl rfl (As rfl rfl (WL.nil (Fin.then (Wp.seq (Wp.block ?_)))))))))))))
  have H25 : Own w D w [blk g1c0 [.slice A1c0x0 p1c0.length c1c0x0] 30, blk g1c1 (EntryD.cells p1c1) 52] := H.pick [0, 1] (by decide) rfl
  refine Wp.loop (ι := Nat × Int × Nat) (fun i => [(5, .int .i64 ((i.1 : Nat) : Int)), (6, .int .i64 i.2.1), (4, .int .i64 0), (1, .func (.func 33) #[] #[.pointer (some ⟨g1c0, 0, none⟩), .pointer (some ⟨g1c1, 0, none⟩)])]) (fun (i : Nat × Int × Nat) w' => Own w D w' [blk g1c0 [.slice A1c0x0 p1c0.length c1c0x0] 30, blk g1c1 (EntryD.cells p1c1) 52] ∧ (((i.1 : Nat) : Int) ≤ i.2.1 ∧ i.2.1 ≤ p0 ∧ Int.toNat (i.2.1 - ((i.1 : Nat) : Int)) < i.2.2 ∧ sort_Search_L0 p1c0 p1c1 ((Int.toNat (p0 - ((0 : Nat) : Int))) + 1) 0 p0 = sort_Search_L0 p1c0 p1c1 i.2.2 i.1 i.2.1)) (fun i => i.2.2) (0, p0, (Int.toNat (p0 - ((0 : Nat) : Int))) + 1) ⟨rfl, rfl, rfl, rfl, trivial⟩ ⟨H25, (show ((0 : Nat) : Int) ≤ p0 ∧ p0 ≤ p0 ∧ Int.toNat (p0 - ((0 : Nat) : Int)) < ((Int.toNat (p0 - ((0 : Nat) : Int))) + 1) ∧ sort_Search_L0 p1c0 p1c1 ((Int.toNat (p0 - ((0 : Nat) : Int))) + 1) 0 p0 = sort_Search_L0 p1c0 p1c1 ((Int.toNat (p0 - ((0 : Nat) : Int))) + 1) 0 p0 from ⟨by omega, by omega, by omega, rfl⟩)⟩ ?_
  rintro ⟨k21, z22, f24⟩ w26 ⟨H27, hf28⟩
  show Wp _ _ _ [(5, .int .i64 ((k21 : Nat) : Int)), (6, .int .i64 z22), (4, .int .i64 0), (1, .func (.func 33) #[] #[.pointer (some ⟨g1c0, 0, none⟩), .pointer (some ⟨g1c1, 0, none⟩)])] _ _
  replace hf28 : ((k21 : Nat) : Int) ≤ z22 ∧ z22 ≤ p0 ∧ Int.toNat (z22 - ((k21 : Nat) : Int)) < f24 ∧ sort_Search_L0 p1c0 p1c1 ((Int.toNat (p0 - ((0 : Nat) : Int))) + 1) 0 p0 = sort_Search_L0 p1c0 p1c1 f24 k21 z22 := hf28
  obtain ⟨hi30, hi31, hi32, hq29⟩ := hf28
  obtain ⟨f33, hf34⟩ : ∃ q, f24 = q + 1 := ⟨f24 - 1, by omega⟩
  subst hf34
  refine Wp.seq (Wp.seq (Wp.region (Mv rfl rfl (Mv rfl rfl (Kn (v := .bool (decide (((k21 : Nat) : Int) < z22))) rfl rfl rfl (fun _ => by kernel_rfl) (WL.nil (Fin.then ?_)))))))
  by_cases h35 : ((k21 : Nat) : Int) < z22
  refine Wp.cond1 rfl (decide_eq_true h35) (Wp.skip (Fin.then (Wp.block (Wp.seq (Wp.region (Mv rfl rfl (Mv rfl rfl (WL.val (v := .int .i64 (((k21 : Nat) : Int) + z22)) rfl (Yl.int (e := IntKind.i64.wrap (((k21 : Nat) : Int) + z22)) (Yl.kern rfl rfl (fun _ => by kernel_rfl)) (by rw [IntWalk.i64_in _ (by omega)])) (WL.val (v := .int .u64 ((Int.toNat (((k21 : Nat) : Int) + z22) : Nat) : Int)) rfl (Yl.int (e := IntKind.u64.wrap (((k21 : Nat) : Int) + z22)) (Yl.kern rfl rfl (fun _ => by kernel_rfl)) (by rw [IntWalk.u64_in _ (by omega)]; omega)) (WL.val (v := .int .u64 (((Int.toNat (((k21 : Nat) : Int) + z22)) / 2 : Nat) : Int)) rfl (Yl.int (e := Int.fdiv ((Int.toNat (((k21 : Nat) : Int) + z22) : Nat) : Int) 2) (Yl.kern rfl rfl (fun _ => by kernel_rfl)) (shr_nat _ 1 _ (by decide))) (WL.val (v := .int .i64 (((Int.toNat (((k21 : Nat) : Int) + z22)) / 2 : Nat) : Int)) rfl (Yl.int (e := IntKind.i64.wrap (((Int.toNat (((k21 : Nat) : Int) + z22)) / 2 : Nat) : Int)) (Yl.kern rfl rfl (fun _ => by kernel_rfl)) (IntWalk.i64_in _ (by omega))) (As rfl rfl (WL.nil (Fin.then (Wp.seq (Wp.region (Mv rfl rfl (Mv rfl rfl ?_))))))))))))))))))
  refine WL.do rfl (Do.callV Try.call33 rfl rfl ?_ (fun _ _ k => k))
  refine Calls.body (args := [.int .i64 (((Int.toNat (((k21 : Nat) : Int) + z22)) / 2 : Nat) : Int), .pointer (some ⟨g1c0, 0, none⟩), .pointer (some ⟨g1c1, 0, none⟩)]) Try.func33 rfl rfl rfl ?_
  show Wp _ _ _ [(0, .int .i64 (((Int.toNat (((k21 : Nat) : Int) + z22)) / 2 : Nat) : Int)), (1, .pointer (some ⟨g1c0, 0, none⟩)), (2, .pointer (some ⟨g1c1, 0, none⟩))] _ _
  refine Wp.seq (Wp.region (As rfl rfl (WL.nil (Fin.then (Wp.seq ?_)))))
  have H37 := H27.drew
  refine Wp.drawnX [] (fun W => ∃ L', Own w D W ([blk g1c0 [.slice A1c0x0 p1c0.length c1c0x0] 30, blk g1c1 (EntryD.cells p1c1) 52] ++ L')) (by kernel_rfl) (by kernel_rfl) (NoP.then NoP.base) ⟨_, H37⟩ ?_
  revert H37
  generalize World.drew w26 = w36
  intro H37
  refine GX.take (v := .slice A1c0x0 p1c0.length c1c0x0) (rs := []) 0 rfl (by kernel_rfl) (fun _ ⟨_, H9⟩ => Yl.load rfl (Lds.one Try.isAgg30 (Cls.of (H9.cls (i := 0) rfl) rfl))) (GX.take (v := .int .i64 (((Int.toNat (((k21 : Nat) : Int) + z22)) / 2 : Nat) : Int)) (rs := []) 1 rfl (by kernel_rfl) (fun _ _ => Yl.move rfl) ?_)
  obtain ⟨x38, hx39⟩ := at_of (ls := p1c0) (i := (Int.toNat (((k21 : Nat) : Int) + z22)) / 2) (by first | omega | (simp; done) | (simp; omega))
  refine GX.take (v := .pointer (some ⟨ab A1c0x0, ao A1c0x0 + ((Int.toNat (((k21 : Nat) : Int) + z22)) / 2) * 1, none⟩)) (rs := []) 2 rfl (by kernel_rfl) (fun _ ⟨_, H9⟩ => Yl.indexAddr (El30) rfl rfl ((H9.ro hx1c0x0).addr (i := (Int.toNat (((k21 : Nat) : Int) + z22)) / 2) (by omega)) (by omega)) (GX.take (v := .string ⟨List.toArray x38⟩) (rs := []) 3 rfl (by kernel_rfl) (fun _ ⟨_, H9⟩ => Yl.load rfl (Lds.one Try.isAgg9 (((H9.ro hx1c0x0).elem eS_len hx39 (by decide)).at_ (k := 0) rfl))) (GX.take (v := .pointer (some ⟨g1c1, 1, none⟩)) (rs := []) 4 rfl (by kernel_rfl) (fun _ _ => Yl.kern rfl rfl (fun _ => by kernel_rfl)) (GX.take (v := .pointer (some ⟨g1c1, 2, none⟩)) (rs := []) 5 rfl (by kernel_rfl) (fun _ _ => Yl.kern rfl rfl (fun _ => by kernel_rfl)) (GX.take (v := .string ⟨List.toArray p1c1.xOp.xKey⟩) (rs := []) 6 rfl (by kernel_rfl) (fun _ ⟨_, H9⟩ => Yl.load rfl (Lds.one Try.isAgg9 (Cls.of (H9.cls (i := 1) rfl) rfl))) (GX.take (v := .bool (decide (p1c1.xOp.xKey < x38))) (rs := []) 7 rfl (by kernel_rfl) (fun _ _ => Yl.bool (e := !(Op.bytesLess x38 p1c1.xOp.xKey || decide (x38 = p1c1.xOp.xKey))) (Yl.strGt rfl rfl) (bl_gt _ _)) (GX.take (v := .bool (decide (p1c1.xOp.xKey < x38))) (rs := []) 8 rfl (by kernel_rfl) (fun _ _ => Yl.assign rfl) (GX.done (by kernel_rfl) (Fin.then (Wp.ret (Fin.res (res1 rfl rfl) (WL.val (v := .bool (decide (¬ (p1c1.xOp.xKey < x38)))) rfl (Yl.bool (e := !(decide (p1c1.xOp.xKey < x38))) (Yl.kern rfl rfl (fun _ => by kernel_rfl)) decide_not.symm) (WL.nil (Fin.then ?_)))))))))))))
  by_cases h40 : p1c1.xOp.xKey < x38
  refine Wp.cond0 rfl (decide_eq_false (not_not_intro h40)) (Wp.region (Mv rfl rfl (As rfl rfl (WL.nil (Fin.blockN ?_)))))
  have H41 := H37.pick [0, 1] (by decide) rfl
  exact Fin.round (k21, (((Int.toNat (((k21 : Nat) : Int) + z22)) / 2 : Nat) : Int), f33) ⟨rfl, rfl, rfl, rfl, trivial⟩ ⟨H41, (show ((k21 : Nat) : Int) ≤ (((Int.toNat (((k21 : Nat) : Int) + z22)) / 2 : Nat) : Int) ∧ (((Int.toNat (((k21 : Nat) : Int) + z22)) / 2 : Nat) : Int) ≤ p0 ∧ Int.toNat ((((Int.toNat (((k21 : Nat) : Int) + z22)) / 2 : Nat) : Int) - ((k21 : Nat) : Int)) < f33 ∧ sort_Search_L0 p1c0 p1c1 ((Int.toNat (p0 - ((0 : Nat) : Int))) + 1) 0 p0 = sort_Search_L0 p1c0 p1c1 f33 k21 (((Int.toNat (((k21 : Nat) : Int) + z22)) / 2 : Nat) : Int) from ⟨by omega, by omega, by omega, Eq.trans (hq29) (Eq.trans (if_pos h35) (Eq.trans (bnd_of (getD_of hx39)) (if_pos h40)))⟩)⟩ (by show f33 < f33 + 1; omega)
  refine Wp.cond1 rfl (decide_eq_true h40) (Wp.region (Mv rfl rfl (WL.val (v := .int .i64 ((((Int.toNat (((k21 : Nat) : Int) + z22)) / 2) + 1 : Nat) : Int)) rfl (Yl.int (e := IntKind.i64.wrap ((((Int.toNat (((k21 : Nat) : Int) + z22)) / 2 : Nat) : Int) + 1)) (Yl.kern rfl rfl (fun _ => by kernel_rfl)) (by rw [IntWalk.i64_in _ (by omega)]; omega)) (As rfl rfl (WL.nil (Fin.blockN ?_))))))
  have H42 := H37.pick [0, 1] (by decide) rfl
  exact Fin.round (((Int.toNat (((k21 : Nat) : Int) + z22)) / 2) + 1, z22, f33) ⟨rfl, rfl, rfl, rfl, trivial⟩ ⟨H42, (show (((((Int.toNat (((k21 : Nat) : Int) + z22)) / 2) + 1) : Nat) : Int) ≤ z22 ∧ z22 ≤ p0 ∧ Int.toNat (z22 - (((((Int.toNat (((k21 : Nat) : Int) + z22)) / 2) + 1) : Nat) : Int)) < f33 ∧ sort_Search_L0 p1c0 p1c1 ((Int.toNat (p0 - ((0 : Nat) : Int))) + 1) 0 p0 = sort_Search_L0 p1c0 p1c1 f33 (((Int.toNat (((k21 : Nat) : Int) + z22)) / 2) + 1) z22 from ⟨by omega, by omega, by omega, Eq.trans (hq29) (Eq.trans (if_pos h35) (Eq.trans (bnd_of (getD_of hx39)) (if_neg h40)))⟩)⟩ (by show f33 < f33 + 1; omega)
  refine Wp.cond0 rfl (decide_eq_false h35) (Wp.exit (Fin.thenX ?_))
  have hL43 : sort_Search_L0 p1c0 p1c1 ((Int.toNat (p0 - ((0 : Nat) : Int))) + 1) 0 p0 = k21 := Eq.trans (hq29) (if_neg h35)
  refine Fin.thenX (Fin.blockX (Fin.then (Wp.seq (Wp.region (Mv rfl rfl (As rfl rfl (WL.nil (Fin.then (Wp.ret (Fin.res (res1 rfl rfl) ?_))))))))))
  have H44 := H27.pick [0, 1] (by decide) rfl
  have e : sort_Search p0 p1c0 p1c1 = ((k21 : Nat) : Int) := bnd_of hL43
  obtain rfl := e.symm.trans hr
  exact ⟨rfl, H44, (by omega)⟩

def buffer_Part_L1 (l1 : List (List UInt8)) (x68 : EntryD) : Nat → Nat → List (Ll EntryD) → (List (Ll EntryD))
  | 0, k77, l79 => l79
  | q80 + 1, k77, l79 => bnd (buffer_rangeOf x68.xOp) fun yr286 => bnd (buffer_partRange l1 ((k77 : Nat) : Int)) fun yr296 => bnd (span_Meet yr286 yr296) fun yr306 => if yr306.2 = true then bnd (List.getD l79 k77 default) fun yx324 => buffer_Part_L1 l1 x68 q80 (k77 + 1) (List.set l79 k77 (Ll.mk (yx324.ls ++ [(EntryD.mk x68.xSeq (OpD.mk 5 ([]) ([]) yr306.1.xLo yr306.1.xHi 0))]))) else buffer_Part_L1 l1 x68 q80 (k77 + 1) l79

def buffer_Part_L0 (l1 : List (List UInt8)) : List EntryD → List (Ll EntryD) → (List (Ll EntryD))
  | [], l55 => l55
  | x68 :: q56, l55 => if x68.xOp.xKind = 5 then bnd (buffer_Part_L1 l1 x68 (l1.length + 1) 0 l55) fun sLrbtbtLstL => buffer_Part_L0 l1 q56 sLrbtbtLstL else bnd (sort_Search ((l1.length : Nat) : Int) l1 x68) fun yr356 => bnd (List.getD l55 (Int.toNat yr356) default) fun yx364 => buffer_Part_L0 l1 q56 (List.set l55 (Int.toNat yr356) (Ll.mk (yx364.ls ++ [x68])))

def buffer_Part (l0 : List EntryD) (l1 : List (List UInt8)) : (List (Ll EntryD)) × Int :=
  bnd (buffer_Check l0) fun yr29 => if yr29 = 0 then bnd (buffer_checkPivots l1) fun yr40 => if yr40 = 0 then bnd (buffer_Part_L0 l1 l0 (List.replicate (l1.length + 1) (Ll.mk [] : Ll EntryD))) fun sLrbtbtL => (sLrbtbtL, 0) else ([], yr40) else ([], yr29)

set_option maxRecDepth 100000 in
theorem buffer_Part_ok (w : World) (D : Nat → Prop) (A0 : Option Addr) (n0 c0 : Nat) (l0 : List EntryD) (A1 : Option Addr) (n1 c1 : Nat) (l1 : List (List UInt8)) (r0 : List (Ll EntryD)) (r1 : Int) (H : Own w D w []) (hx0 : Ro w D fun w' => Rds w' 7 A0 n0 (List.flatMap EntryD.cells l0)) (hn0 : n0 = l0.length) (hl0 : l0.length ≤ 9223372036854775807) (hx1 : Ro w D fun w' => Rds w' 1 A1 n1 (List.flatMap eS l1)) (hn1 : n1 = l1.length) (hl1 : l1.length * 16 ≤ 211106232532992) (hq1 : l1.length ≤ c1) (hh0 : l0.length ≤ 1000000000 ∧ l1.length ≤ 1000000000) (hr : buffer_Part l0 l1 = (r0, r1)) :
    Calls Try.prog 12 #[.slice A0 n0 c0, .slice A1 n1 c1] w (Ret fun v w' => ∃ (B0 : Option Addr) (b0 : Nat) (e0 : List Row22D), v = .tuple #[.slice B0 r0.length b0, .int .i64 r1] ∧ Own w D w' [row B0 r0.length b0 (List.flatMap (Sv.enc (β := EntryD)) e0) 22 1, sepL (List.flatMap Row22D.own e0)] ∧ (List.map Row22D.abs e0 = r0) ∧ (rl r0 l0.length 0) ∧ (r0.length ≤ l1.length + 1)) := by
  subst hn0 hn1
  refine Calls.body (args := [.slice A0 l0.length c0, .slice A1 l1.length c1]) Try.func12 rfl rfl rfl ?_
  show Wp _ _ _ [(0, .slice A0 l0.length c0), (1, .slice A1 l1.length c1)] _ _
  refine Wp.seq (Wp.region ?_)
  refine WL.do rfl (Do.newP (cs := [.slice A1 l1.length c1]) (t := 30) H rfl rfl (fun _ => by kernel_rfl) ?_)
  intro g21 w22 H23
  refine As rfl rfl (As rfl rfl (WL.nil (Fin.then (Wp.seq (Wp.seq (Wp.region (Mv rfl rfl ?_)))))))
  obtain ⟨r29, hr30⟩ : ∃ q, buffer_Check l0 = q := ⟨_, rfl⟩
  obtain ⟨D24, HP25, ro26, bk27, rr28⟩ := Own.enter0 H23
  refine WL.do rfl (Do.call Try.call10 rfl (buffer_Check_ok _ _ A0 l0.length c0 l0 r29 HP25 (ro26 _ hx0) rfl (by omega) hr30) ?_)
  rintro _ w31 ⟨rfl, HQ32⟩
  have H33 := bk27 _ _ HQ32
  refine As rfl rfl (WL.nil (Fin.then (Wp.seq (Wp.region (Mv rfl rfl (WL.val (v := .bool (decide (¬ (r29 = 0)))) rfl (Yl.bool (e := !(decide (r29 = 0))) (Yl.kern rfl rfl (fun _ => by kernel_rfl)) decide_not.symm) (WL.nil (Fin.then ?_))))))))
  by_cases h34 : r29 = 0
  refine Wp.cond0 rfl (decide_eq_false (not_not_intro h34)) (Wp.skip (Fin.then (Wp.seq (Wp.seq (Wp.region (WL.val (v := .slice A1 l1.length c1) rfl (Yl.load rfl (Lds.one Try.isAgg30 (Cls.of (H33.cls (i := 0) rfl) rfl))) ?_))))))
  obtain ⟨r40, hr41⟩ : ∃ q, buffer_checkPivots l1 = q := ⟨_, rfl⟩
  obtain ⟨D35, HP36, ro37, bk38, rr39⟩ := Own.enter0 H33
  refine WL.do rfl (Do.call Try.call31 rfl (buffer_checkPivots_ok _ _ A1 l1.length c1 l1 r40 HP36 (ro37 _ hx1) rfl (by omega) hr41) ?_)
  rintro _ w42 ⟨rfl, HQ43⟩
  have H44 := bk38 _ _ HQ43
  refine As rfl rfl (WL.nil (Fin.then (Wp.seq (Wp.region (Mv rfl rfl (WL.val (v := .bool (decide (¬ (r40 = 0)))) rfl (Yl.bool (e := !(decide (r40 = 0))) (Yl.kern rfl rfl (fun _ => by kernel_rfl)) decide_not.symm) (WL.nil (Fin.then ?_))))))))
  by_cases h45 : r40 = 0
  refine Wp.cond0 rfl (decide_eq_false (not_not_intro h45)) (Wp.skip (Fin.then (Wp.seq (Wp.region (WL.val (v := .slice A1 l1.length c1) rfl (Yl.load rfl (Lds.one Try.isAgg30 (Cls.of (H44.cls (i := 0) rfl) rfl))) (Kn (v := .int .i64 ((l1.length : Nat) : Int)) rfl rfl rfl (fun _ => by kernel_rfl) (WL.val (v := .int .i64 ((l1.length + 1 : Nat) : Int)) rfl (Yl.int (e := IntKind.i64.wrap (((l1.length : Nat) : Int) + 1)) (Yl.kern rfl rfl (fun _ => by kernel_rfl)) (by rw [IntWalk.i64_in _ (by omega)]; omega)) ?_)))))))
  refine WL.do rfl (Do.makeE (x0 := (Sv.mk none 0 [] : Row22D)) (z := .slice none 0 0) (k := l1.length + 1) (size := 1) (bytes := 24) svLen (by decide) rfl Try.underlying31 (by kernel_rfl) H44 rfl rfl (by omega) (by unfold maxLen; omega) ?_)
  intro A46 w47 H48
  have H49 : Own w D w47 [sepL (List.flatMap Row22D.own (List.replicate (l1.length + 1) (Sv.mk none 0 [] : Row22D))), row A46 (l1.length + 1) (l1.length + 1) (List.flatMap (Sv.enc (β := EntryD)) (List.replicate (l1.length + 1) (Sv.mk none 0 [] : Row22D))) 22 1, blk g21 [.slice A1 l1.length c1] 30] := H48.free (free_rep (free_one (row_nil 52 7)))
  have hl50 : List.length (List.replicate (l1.length + 1) (Sv.mk none 0 [] : Row22D)) = l1.length + 1 := List.length_replicate
  have hl51 : List.length (List.replicate (l1.length + 1) (Ll.mk [] : Ll EntryD)) = l1.length + 1 := List.length_replicate
  refine As rfl rfl (WL.nil (Fin.then (Wp.seq (Wp.seq (Wp.region (Mv rfl rfl (Kn (v := .int .i64 ((l0.length : Nat) : Int)) rfl rfl rfl (fun _ => by kernel_rfl) (Mv rfl rfl (WL.nil (Fin.then (Wp.block ?_)))))))))))
  have H57 := H49.pick [1, 2, 0] (by decide) rfl
  refine Wp.loop (ι := Nat × (List Row22D) × (List (Ll EntryD))) (fun i => [(32, .int .i64 ((i.1 : Nat) : Int)), (31, .int .i64 ((l0.length : Nat) : Int)), (30, .slice A0 l0.length c0), (8, .slice A46 (l1.length + 1) (l1.length + 1)), (5, .int .i64 0), (4, .slice none 0 0), (3, .pointer (some ⟨g21, 0, none⟩))]) (fun (i : Nat × (List Row22D) × (List (Ll EntryD))) w' => Own w D w' [row A46 (l1.length + 1) (l1.length + 1) (List.flatMap (Sv.enc (β := EntryD)) i.2.1) 22 1, blk g21 [.slice A1 l1.length c1] 30, sepL (List.flatMap Row22D.own i.2.1)] ∧ (List.map Row22D.abs i.2.1 = i.2.2 ∧ i.2.2.length = l1.length + 1 ∧ i.1 ≤ l0.length ∧ rl i.2.2 i.1 0 ∧ buffer_Part_L0 l1 l0 (List.replicate (l1.length + 1) (Ll.mk [] : Ll EntryD)) = buffer_Part_L0 l1 (List.drop i.1 l0) i.2.2)) (fun i => l0.length - i.1) (0, (List.replicate (l1.length + 1) (Sv.mk none 0 [] : Row22D)), (List.replicate (l1.length + 1) (Ll.mk [] : Ll EntryD))) ⟨rfl, rfl, rfl, rfl, rfl, rfl, rfl, trivial⟩ ⟨H57, (show List.map Row22D.abs (List.replicate (l1.length + 1) (Sv.mk none 0 [] : Row22D)) = (List.replicate (l1.length + 1) (Ll.mk [] : Ll EntryD)) ∧ List.length (List.replicate (l1.length + 1) (Ll.mk [] : Ll EntryD)) = l1.length + 1 ∧ 0 ≤ l0.length ∧ rl (List.replicate (l1.length + 1) (Ll.mk [] : Ll EntryD)) 0 0 ∧ buffer_Part_L0 l1 l0 (List.replicate (l1.length + 1) (Ll.mk [] : Ll EntryD)) = buffer_Part_L0 l1 (List.drop 0 l0) (List.replicate (l1.length + 1) (Ll.mk [] : Ll EntryD)) from ⟨by exact (List.map_replicate (f := Row22D.abs)), by first | omega | (simp only [List.length_set]; omega) | (simp only [List.length_replicate]), by omega, by first | exact rl_rep _ _ | exact rl_end (by assumption) | exact rl_put (by assumption) (by assumption), rfl⟩)⟩ ?_
  rintro ⟨k53, d54, l55⟩ w58 ⟨H59, hf60⟩
  show Wp _ _ _ [(32, .int .i64 ((k53 : Nat) : Int)), (31, .int .i64 ((l0.length : Nat) : Int)), (30, .slice A0 l0.length c0), (8, .slice A46 (l1.length + 1) (l1.length + 1)), (5, .int .i64 0), (4, .slice none 0 0), (3, .pointer (some ⟨g21, 0, none⟩))] _ _
  replace hf60 : List.map Row22D.abs d54 = l55 ∧ l55.length = l1.length + 1 ∧ k53 ≤ l0.length ∧ rl l55 k53 0 ∧ buffer_Part_L0 l1 l0 (List.replicate (l1.length + 1) (Ll.mk [] : Ll EntryD)) = buffer_Part_L0 l1 (List.drop k53 l0) l55 := hf60
  obtain ⟨hi62, hi63, hi64, hi65, hq61⟩ := hf60
  have hl66 := abs_len hi62
  refine Wp.seq (Wp.region (Kn (v := .bool (decide (((k53 : Nat) : Int) < ((l0.length : Nat) : Int)))) rfl rfl rfl (fun _ => by kernel_rfl) (WL.nil (Fin.then (Wp.seq ?_)))))
  by_cases h67 : ((k53 : Nat) : Int) < ((l0.length : Nat) : Int)
  obtain ⟨x68, hx69⟩ := rds_at (ls := l0) (i := k53) EntryD.len (by decide) (H59.ro hx0) (by first | omega | (simp; done) | (simp; omega))
  have hd70 := drop_at hx69
  refine Wp.cond1 rfl (decide_eq_true h67) (Wp.skip (Fin.then (Wp.seq (Wp.block (Wp.seq (Wp.region (WL.val (v := .pointer (some ⟨ab A0, ao A0 + k53 * 7, none⟩)) rfl (Yl.indexAddr (El22) rfl rfl ((H59.ro hx0).addr (i := k53) (by omega)) (by omega)) (WL.val (v := .agg (EntryD.cells x68).toArray) rfl (Yl.load rfl (Lds.agg (cs := (EntryD.cells x68)) Try.isAgg52 Try.sizeOf52 ((H59.ro hx0).elem EntryD.len hx69 (by decide)))) ?_))))))))
  refine WL.do rfl (Do.newP (cs := [.int .u64 0, .int .i64 0, .string ⟨List.toArray ([])⟩, .string ⟨List.toArray ([])⟩, .string ⟨List.toArray ([])⟩, .string ⟨List.toArray ([])⟩, .int .i64 0]) (t := 52) H59 rfl rfl (fun _ => by kernel_rfl) ?_)
  intro g71 w72 H73
  refine WL.do0 (Do.store (vs := (EntryD.cells x68)) (o := 0) H73 rfl rfl Try.sizeOf52 rfl rfl rfl rfl ?_)
  intro w74 H75
  refine WL.nil (Fin.then (Wp.seq (Wp.seq (Wp.region (Kn (v := .pointer (some ⟨g71, 1, none⟩)) rfl rfl rfl (fun _ => by kernel_rfl) (Kn (v := .pointer (some ⟨g71, 1, none⟩)) rfl rfl rfl (fun _ => by kernel_rfl) (WL.val (v := .int .i64 x68.xOp.xKind) rfl (Yl.load rfl (Lds.one Try.isAgg3 (Cls.of (H75.cls (i := 0) rfl) rfl))) (WL.val (v := .bool (decide (¬ (x68.xOp.xKind = 5)))) rfl (Yl.bool (e := !(decide (x68.xOp.xKind = 5))) (Yl.kern rfl rfl (fun _ => by kernel_rfl)) decide_not.symm) (WL.nil (Fin.then ?_))))))))))
  by_cases h76 : x68.xOp.xKind = 5
  refine Wp.cond0 rfl (decide_eq_false (not_not_intro h76)) (Wp.skip (Fin.then (Wp.seq (Wp.region (Mv rfl rfl (Kn (v := .int .i64 ((l1.length + 1 : Nat) : Int)) rfl rfl rfl (fun _ => by kernel_rfl) (Mv rfl rfl (WL.nil (Fin.then (Wp.block ?_))))))))))
  have H81 := H75.pick [0, 1, 2, 3] (by decide) rfl
  refine Wp.loop (ι := Nat × (List Row22D) × (List (Ll EntryD))) (fun i => [(56, .int .i64 ((i.1 : Nat) : Int)), (55, .int .i64 ((l1.length + 1 : Nat) : Int)), (54, .slice A46 (l1.length + 1) (l1.length + 1)), (39, .bool (decide (¬ (x68.xOp.xKind = 5)))), (38, .int .i64 x68.xOp.xKind), (37, .pointer (some ⟨g71, 1, none⟩)), (36, .pointer (some ⟨g71, 1, none⟩)), (10, .pointer (some ⟨g71, 0, none⟩)), (35, .agg (EntryD.cells x68).toArray), (34, .pointer (some ⟨ab A0, ao A0 + k53 * 7, none⟩)), (33, .bool (decide (((k53 : Nat) : Int) < ((l0.length : Nat) : Int)))), (32, .int .i64 ((k53 : Nat) : Int)), (31, .int .i64 ((l0.length : Nat) : Int)), (30, .slice A0 l0.length c0), (8, .slice A46 (l1.length + 1) (l1.length + 1)), (5, .int .i64 0), (4, .slice none 0 0), (3, .pointer (some ⟨g21, 0, none⟩))]) (fun (i : Nat × (List Row22D) × (List (Ll EntryD))) w' => Own w D w' [blk g71 (EntryD.cells x68) 52, row A46 (l1.length + 1) (l1.length + 1) (List.flatMap (Sv.enc (β := EntryD)) i.2.1) 22 1, blk g21 [.slice A1 l1.length c1] 30, sepL (List.flatMap Row22D.own i.2.1)] ∧ (List.map Row22D.abs i.2.1 = i.2.2 ∧ i.2.2.length = l1.length + 1 ∧ i.1 ≤ l1.length + 1 ∧ rl i.2.2 k53 i.1 ∧ buffer_Part_L1 l1 x68 (l1.length + 1) 0 l55 = buffer_Part_L1 l1 x68 ((l1.length + 1) - i.1) i.1 i.2.2)) (fun i => (l1.length + 1) - i.1) (0, d54, l55) ⟨rfl, rfl, rfl, rfl, rfl, rfl, rfl, rfl, rfl, rfl, rfl, rfl, rfl, rfl, rfl, rfl, rfl, rfl, trivial⟩ ⟨H81, (show List.map Row22D.abs d54 = l55 ∧ l55.length = l1.length + 1 ∧ 0 ≤ l1.length + 1 ∧ rl l55 k53 0 ∧ buffer_Part_L1 l1 x68 (l1.length + 1) 0 l55 = buffer_Part_L1 l1 x68 ((l1.length + 1) - 0) 0 l55 from ⟨by exact hi62, by first | omega | (simp only [List.length_set]; omega) | (simp only [List.length_replicate]), by omega, by first | assumption | exact rl_skip (by assumption) | exact rl_set (by assumption) (by assumption), rfl⟩)⟩ ?_
  rintro ⟨k77, d78, l79⟩ w82 ⟨H83, hf84⟩
  show Wp _ _ _ [(56, .int .i64 ((k77 : Nat) : Int)), (55, .int .i64 ((l1.length + 1 : Nat) : Int)), (54, .slice A46 (l1.length + 1) (l1.length + 1)), (39, .bool (decide (¬ (x68.xOp.xKind = 5)))), (38, .int .i64 x68.xOp.xKind), (37, .pointer (some ⟨g71, 1, none⟩)), (36, .pointer (some ⟨g71, 1, none⟩)), (10, .pointer (some ⟨g71, 0, none⟩)), (35, .agg (EntryD.cells x68).toArray), (34, .pointer (some ⟨ab A0, ao A0 + k53 * 7, none⟩)), (33, .bool (decide (((k53 : Nat) : Int) < ((l0.length : Nat) : Int)))), (32, .int .i64 ((k53 : Nat) : Int)), (31, .int .i64 ((l0.length : Nat) : Int)), (30, .slice A0 l0.length c0), (8, .slice A46 (l1.length + 1) (l1.length + 1)), (5, .int .i64 0), (4, .slice none 0 0), (3, .pointer (some ⟨g21, 0, none⟩))] _ _
  replace hf84 : List.map Row22D.abs d78 = l79 ∧ l79.length = l1.length + 1 ∧ k77 ≤ l1.length + 1 ∧ rl l79 k53 k77 ∧ buffer_Part_L1 l1 x68 (l1.length + 1) 0 l55 = buffer_Part_L1 l1 x68 ((l1.length + 1) - k77) k77 l79 := hf84
  obtain ⟨hi86, hi87, hi88, hi89, hq85⟩ := hf84
  have hl90 := abs_len hi86
  refine Wp.seq (Wp.region (Kn (v := .bool (decide (((k77 : Nat) : Int) < ((l1.length + 1 : Nat) : Int)))) rfl rfl rfl (fun _ => by kernel_rfl) (WL.nil (Fin.then (Wp.seq ?_)))))
  by_cases h91 : ((k77 : Nat) : Int) < ((l1.length + 1 : Nat) : Int)
  refine Wp.cond1 rfl (decide_eq_true h91) (Wp.skip (Fin.then (Wp.seq (Wp.block (Wp.seq (Wp.region (Mv rfl rfl (As rfl rfl (WL.nil (Fin.then (Wp.seq ?_)))))))))))
  have H93 := H83.drew
  refine Wp.drawnX [] (fun W => ∃ L', Own w D W ([blk g71 (EntryD.cells x68) 52, row A46 (l1.length + 1) (l1.length + 1) (List.flatMap (Sv.enc (β := EntryD)) d78) 22 1, blk g21 [.slice A1 l1.length c1] 30, sepL (List.flatMap Row22D.own d78)] ++ L')) (by kernel_rfl) (by kernel_rfl) (NoP.then (NoP.block (NoP.then (NoP.then (NoP.block (NoP.block (NoP.then (NoP.then (NoP.block (NoP.then NoP.base)))))))))) ⟨_, H93⟩ ?_
  revert H93
  generalize World.drew w82 = w92
  intro H93
  refine GX.take (v := .pointer (some ⟨g71, 1, none⟩)) (rs := []) 0 rfl (by kernel_rfl) (fun _ _ => Yl.kern rfl rfl (fun _ => by kernel_rfl)) (GX.take (v := .agg (OpD.cells x68.xOp).toArray) (rs := []) 1 rfl (by kernel_rfl) (fun _ ⟨_, H9⟩ => Yl.load rfl (Lds.agg (cs := (OpD.cells x68.xOp)) Try.isAgg50 Try.sizeOf50 ((H9.cls (i := 0) rfl).lit (k := 1) (m := 6) rfl))) (GX.take (v := .slice A1 l1.length c1) (rs := []) 3 rfl (by kernel_rfl) (fun _ ⟨_, H9⟩ => Yl.load rfl (Lds.one Try.isAgg30 (Cls.of (H9.cls (i := 2) rfl) rfl))) (GX.take (v := .int .i64 ((k77 : Nat) : Int)) (rs := []) 4 rfl (by kernel_rfl) (fun _ _ => Yl.move rfl) ?_)))
  refine GX.any2 2 10 (by kernel_rfl) ?_ ?_
  obtain ⟨r99, hr100⟩ : ∃ q, buffer_rangeOf x68.xOp = q := ⟨_, rfl⟩
  obtain ⟨D94, HP95, ro96, bk97, rr98⟩ := Own.enter0 H93
  refine GY.do 2 rfl (by kernel_rfl) (Do.call Try.call35 rfl (buffer_rangeOf_ok _ _ x68.xOp r99 HP95 hr100) ?_)
  rintro _ w101 ⟨rfl, HQ102⟩
  have H103 := bk97 _ _ HQ102
  refine ⟨.inr ⟨_, H103⟩, ?_⟩
  refine GX.any2 5 10 (by kernel_rfl) ?_ ?_
  obtain ⟨r109, hr110⟩ : ∃ q, buffer_partRange l1 ((k77 : Nat) : Int) = q := ⟨_, rfl⟩
  obtain ⟨D104, HP105, ro106, bk107, rr108⟩ := Own.enter0 H103
  refine GY.do 5 rfl (by kernel_rfl) (Do.call Try.call36 rfl (buffer_partRange_ok _ _ A1 l1.length c1 l1 ((k77 : Nat) : Int) r109 HP105 (ro106 _ hx1) rfl (by omega) (by omega) hr110) ?_)
  rintro _ w111 ⟨rfl, HQ112⟩
  have H113 := bk107 _ _ HQ112
  refine ⟨.inr ⟨_, H113⟩, ?_⟩
  refine GX.any2 6 10 (by kernel_rfl) ?_ ?_
  obtain ⟨⟨r119, r120⟩, hr121⟩ : ∃ q : RangeD × Bool, span_Meet r99 r109 = q := ⟨_, rfl⟩
  obtain ⟨D114, HP115, ro116, bk117, rr118⟩ := Own.enter0 H113
  refine GY.do 6 rfl (by kernel_rfl) (Do.call Try.call34 rfl (span_Meet_ok _ _ r99 r109 r119 r120 HP115 hr121) ?_)
  rintro _ w122 ⟨rfl, HQ123⟩
  have H124 := bk117 _ _ HQ123
  refine ⟨.inr ⟨_, H124⟩, ?_⟩
  refine GX.take (v := .tuple #[.agg (RangeD.cells r119).toArray, .bool r120]) (rs := []) 7 rfl (by kernel_rfl) (fun _ _ => Yl.move rfl) (GX.take (v := .agg (RangeD.cells r119).toArray) (rs := []) 8 rfl (by kernel_rfl) (fun _ _ => Yl.kern rfl rfl (fun _ => by kernel_rfl)) (GX.take (v := .bool r120) (rs := []) 9 rfl (by kernel_rfl) (fun _ _ => Yl.kern rfl rfl (fun _ => by kernel_rfl)) ?_))
  refine GX.do 10 rfl (by kernel_rfl) (Do.newP (cs := [.string ⟨List.toArray ([])⟩, .string ⟨List.toArray ([])⟩]) (t := 38) H124 rfl rfl (fun _ => by kernel_rfl) ?_)
  intro g125 w126 H127
  have H128 := H127.pick [1, 2, 3, 4, 0] (by decide) rfl
  refine ⟨.inr ⟨_, H128⟩, ?_⟩
  have H129 := H128.pick [4, 0, 1, 2, 3] (by decide) rfl
  refine GX.do0 11 rfl (by kernel_rfl) (Do.store (vs := (RangeD.cells r119)) (o := 0) H129 rfl rfl Try.sizeOf38 rfl rfl rfl rfl ?_)
  intro w130 H131
  have H132 := H131.pick [1, 2, 3, 4, 0] (by decide) rfl
  refine ⟨.inr ⟨_, H132⟩, ?_⟩
  refine GX.take (v := .bool r120) (rs := []) 12 rfl (by kernel_rfl) (fun _ _ => Yl.assign rfl) (GX.done (by kernel_rfl) (Fin.then (Wp.seq (Wp.region (Mv rfl rfl (WL.nil (Fin.then ?_)))))))
  rcases Bool.eq_false_or_eq_true (r120) with h133 | h133
  refine Wp.cond1 rfl h133 (Wp.seq (Wp.region (Kn (v := .pointer (some ⟨g125, 0, none⟩)) rfl rfl rfl (fun _ => by kernel_rfl) (WL.val (v := .string ⟨List.toArray r119.xLo⟩) rfl (Yl.load rfl (Lds.one Try.isAgg9 (Cls.of (H132.cls (i := 4) rfl) rfl))) (Kn (v := .pointer (some ⟨g125, 1, none⟩)) rfl rfl rfl (fun _ => by kernel_rfl) (WL.val (v := .string ⟨List.toArray r119.xHi⟩) rfl (Yl.load rfl (Lds.one Try.isAgg9 (Cls.of (H132.cls (i := 4) rfl) rfl))) (Kn (v := .agg #[.int .i64 5, .string ⟨List.toArray ([])⟩, .string ⟨List.toArray ([])⟩, .string ⟨List.toArray r119.xLo⟩, .string ⟨List.toArray r119.xHi⟩, .int .i64 0]) rfl rfl rfl (fun _ => by kernel_rfl) ?_)))))))
  refine WL.do rfl (Do.newP (cs := [.int .i64 0, .string ⟨List.toArray ([])⟩, .string ⟨List.toArray ([])⟩, .string ⟨List.toArray ([])⟩, .string ⟨List.toArray ([])⟩, .int .i64 0]) (t := 50) H132 rfl rfl (fun _ => by kernel_rfl) ?_)
  intro g134 w135 H136
  refine WL.do0 (Do.store (vs := [.int .i64 5, .string ⟨List.toArray ([])⟩, .string ⟨List.toArray ([])⟩, .string ⟨List.toArray r119.xLo⟩, .string ⟨List.toArray r119.xHi⟩, .int .i64 0]) (o := 0) H136 rfl rfl Try.sizeOf50 rfl rfl rfl rfl ?_)
  intro w137 H138
  refine WL.nil (Fin.then ?_)
  have H140 := H138.drew
  refine Wp.drawnX [11, 13] (fun W => ∃ L', Own w D W ([blk g134 [.int .i64 5, .string ⟨List.toArray ([])⟩, .string ⟨List.toArray ([])⟩, .string ⟨List.toArray r119.xLo⟩, .string ⟨List.toArray r119.xHi⟩, .int .i64 0] 50, blk g71 (EntryD.cells x68) 52, row A46 (l1.length + 1) (l1.length + 1) (List.flatMap (Sv.enc (β := EntryD)) d78) 22 1, blk g21 [.slice A1 l1.length c1] 30, sepL (List.flatMap Row22D.own d78), blk g125 (RangeD.cells r119) 38] ++ L')) (by kernel_rfl) (by kernel_rfl) (NoP.block (NoP.then (NoP.then (NoP.block (NoP.block (NoP.then (NoP.then (NoP.block (NoP.then NoP.base))))))))) ⟨_, H140⟩ ?_
  revert H140
  generalize World.drew w137 = w139
  intro H140
  refine GX.takeA (v := .slice A46 (l1.length + 1) (l1.length + 1)) 0 rfl (by kernel_rfl) (fun _ => Yl.move rfl) (GX.takeA (v := .int .i64 ((k77 : Nat) : Int)) 1 rfl (by kernel_rfl) (fun _ => Yl.move rfl) (GX.take (v := .slice A46 (l1.length + 1) (l1.length + 1)) (rs := [[5, 4], []]) 2 rfl (by kernel_rfl) (fun _ _ => Yl.move rfl) (GX.take (v := .int .i64 ((k77 : Nat) : Int)) (rs := [[5, 4], []]) 3 rfl (by kernel_rfl) (fun _ _ => Yl.move rfl) ?_)))
  obtain ⟨x141, hx142⟩ := at_of (ls := d78) (i := k77) (by first | omega | (simp; done) | (simp; omega))
  have hX143 := abs_at hi86 hx142
  have hz144 : x141.ls.length ≤ k53 := by first | exact rl_at (by assumption) hX143 | exact rl_at0 (by assumption) hX143
  refine GX.take (v := .pointer (some ⟨ab A46, ao A46 + k77 * 1, none⟩)) (rs := [[5], []]) 4 rfl (by kernel_rfl) (fun _ ⟨_, H9⟩ => Yl.indexAddr (El31) rfl rfl ((H9.rds (i := 2) rfl).addr (i := k77) (by omega)) (by omega)) (GX.take (v := .slice x141.A x141.ls.length x141.c) (rs := [[], []]) 5 rfl (by kernel_rfl) (fun _ ⟨_, H9⟩ => Yl.load rfl (Lds.one Try.isAgg22 (((H9.rds (i := 2) rfl).elem svLen hx142 (by decide)).at_ (k := 0) rfl))) (GX.take (v := .pointer (some ⟨g71, 0, none⟩)) (rs := [[10, 9, 7], []]) 6 rfl (by kernel_rfl) (fun _ _ => Yl.kern rfl rfl (fun _ => by kernel_rfl)) (GX.take (v := .int .u64 ((x68.xSeq : Nat) : Int)) (rs := [[10, 9], []]) 7 rfl (by kernel_rfl) (fun _ ⟨_, H9⟩ => Yl.load rfl (Lds.one Try.isAgg48 (Cls.of (H9.cls (i := 1) rfl) rfl))) (GX.take (v := .agg #[.int .i64 5, .string ⟨List.toArray ([])⟩, .string ⟨List.toArray ([])⟩, .string ⟨List.toArray r119.xLo⟩, .string ⟨List.toArray r119.xHi⟩, .int .i64 0]) (rs := [[10, 9], []]) 8 rfl (by kernel_rfl) (fun _ ⟨_, H9⟩ => Yl.load rfl (Lds.agg (cs := [.int .i64 5, .string ⟨List.toArray ([])⟩, .string ⟨List.toArray ([])⟩, .string ⟨List.toArray r119.xLo⟩, .string ⟨List.toArray r119.xHi⟩, .int .i64 0]) Try.isAgg50 Try.sizeOf50 ((H9.cls (i := 0) rfl).lit (k := 0) (m := 6) rfl))) (GX.take (v := .agg #[.int .u64 ((x68.xSeq : Nat) : Int), .int .i64 5, .string ⟨List.toArray ([])⟩, .string ⟨List.toArray ([])⟩, .string ⟨List.toArray r119.xLo⟩, .string ⟨List.toArray r119.xHi⟩, .int .i64 0]) (rs := [[10], []]) 9 rfl (by kernel_rfl) (fun _ _ => Yl.kern rfl rfl (fun _ => by kernel_rfl)) ?_)))))
  refine GX.do 10 rfl (by kernel_rfl) (Do.newRow (cs := [.int .u64 ((x68.xSeq : Nat) : Int), .int .i64 5, .string ⟨List.toArray ([])⟩, .string ⟨List.toArray ([])⟩, .string ⟨List.toArray r119.xLo⟩, .string ⟨List.toArray r119.xHi⟩, .int .i64 0]) (t := 52) (sz := 7) (m := 1) H140 rfl rfl (fun _ => by kernel_rfl) rfl (by decide) ?_)
  intro A145 w146 H147
  replace H147 : Own w D w146 [row A145 1 1 (List.flatMap EntryD.cells ([(EntryD.mk x68.xSeq (OpD.mk 5 ([]) ([]) r119.xLo r119.xHi 0))])) 52 7, blk g134 [.int .i64 5, .string ⟨List.toArray ([])⟩, .string ⟨List.toArray ([])⟩, .string ⟨List.toArray r119.xLo⟩, .string ⟨List.toArray r119.xHi⟩, .int .i64 0] 50, blk g71 (EntryD.cells x68) 52, row A46 (l1.length + 1) (l1.length + 1) (List.flatMap (Sv.enc (β := EntryD)) d78) 22 1, blk g21 [.slice A1 l1.length c1] 30, sepL (List.flatMap Row22D.own d78), blk g125 (RangeD.cells r119) 38] := H147
  have H148 := H147.pick [1, 2, 3, 4, 5, 6, 0] (by decide) rfl
  refine ⟨.inr ⟨_, H148⟩, ?_⟩
  have H149 := H148.pick [4, 0, 1, 2, 3, 5, 6] (by decide) rfl
  have H150 : Own w D w146 [row x141.A x141.ls.length x141.c (List.flatMap EntryD.cells x141.ls) 52 7, sepL (List.flatMap Row22D.own (List.take k77 d78) ++ List.flatMap Row22D.own (List.drop (k77 + 1) d78)), blk g134 [.int .i64 5, .string ⟨List.toArray ([])⟩, .string ⟨List.toArray ([])⟩, .string ⟨List.toArray r119.xLo⟩, .string ⟨List.toArray r119.xHi⟩, .int .i64 0] 50, blk g71 (EntryD.cells x68) 52, row A46 (l1.length + 1) (l1.length + 1) (List.flatMap (Sv.enc (β := EntryD)) d78) 22 1, blk g21 [.slice A1 l1.length c1] 30, blk g125 (RangeD.cells r119) 38, row A145 1 1 (List.flatMap EntryD.cells ([(EntryD.mk x68.xSeq (OpD.mk 5 ([]) ([]) r119.xLo r119.xHi 0))])) 52 7] := Own.sepOpen (f := Row22D.own) (i := k77) hx142 H149
  have hb151 := H150.rowC (i := 0) rfl
  refine GX.do 11 rfl (by kernel_rfl) (Do.appendW (k := x141.ls.length) (m := 1) (El22) H150 rfl rfl (src_of Try.underlying22 (H150.rds (i := 7) rfl) (flat_one EntryD.one ([(EntryD.mk x68.xSeq (OpD.mk 5 ([]) ([]) r119.xLo r119.xHi 0))]))) rfl (by omega) (s := List.length (x141.ls ++ [(EntryD.mk x68.xSeq (OpD.mk 5 ([]) ([]) r119.xLo r119.xHi 0))])) (by first | omega | (simp only [List.length_append, List.length_cons, List.length_nil] <;> omega)) (List.flatMap_append).symm ?_)
  intro A152 c153 w154 H155
  have hl156 : List.length (x141.ls ++ [(EntryD.mk x68.xSeq (OpD.mk 5 ([]) ([]) r119.xLo r119.xHi 0))]) = x141.ls.length + 1 := by simp only [List.length_append, List.length_cons, List.length_nil]
  refine ⟨.inl (by kernel_rfl), ?_⟩
  refine GX.takeA (v := .pointer (some ⟨ab A46, ao A46 + k77 * 1, none⟩)) 12 rfl (by kernel_rfl) (fun _ => Yl.indexAddr (El31) rfl rfl ((H155.rds (i := 4) rfl).addr (i := k77) (by omega)) (by omega)) ?_
  have H157 : Own w D w154 [sepL (List.flatMap Row22D.own (List.set d78 k77 (Sv.mk A152 c153 (x141.ls ++ [(EntryD.mk x68.xSeq (OpD.mk 5 ([]) ([]) r119.xLo r119.xHi 0))]) : Row22D))), blk g134 [.int .i64 5, .string ⟨List.toArray ([])⟩, .string ⟨List.toArray ([])⟩, .string ⟨List.toArray r119.xLo⟩, .string ⟨List.toArray r119.xHi⟩, .int .i64 0] 50, blk g71 (EntryD.cells x68) 52, row A46 (l1.length + 1) (l1.length + 1) (List.flatMap (Sv.enc (β := EntryD)) d78) 22 1, blk g21 [.slice A1 l1.length c1] 30, blk g125 (RangeD.cells r119) 38, row A145 1 1 (List.flatMap EntryD.cells ([(EntryD.mk x68.xSeq (OpD.mk 5 ([]) ([]) r119.xLo r119.xHi 0))])) 52 7] := Own.sepClose (f := Row22D.own) (y := (Sv.mk A152 c153 (x141.ls ++ [(EntryD.mk x68.xSeq (OpD.mk 5 ([]) ([]) r119.xLo r119.xHi 0))]) : Row22D)) hx142 H155
  have H158 := H157.pick [3, 0, 1, 2, 4, 5, 6] (by decide) rfl
  refine GX.do0 13 rfl (by kernel_rfl) (Do.storeRow (vs := [.slice A152 (List.length (x141.ls ++ [(EntryD.mk x68.xSeq (OpD.mk 5 ([]) ([]) r119.xLo r119.xHi 0))])) c153]) (o := k77 * 1 + 0) (q := ao A46 + k77 * 1) H158 rfl (by omega) rfl Try.sizeOf22 rfl rfl (Nat.le_of_ble_eq_true rfl) (store_fits svLen hx142 (Nat.le_of_ble_eq_true rfl)) (flat_set (y := (Sv.mk A152 c153 (x141.ls ++ [(EntryD.mk x68.xSeq (OpD.mk 5 ([]) ([]) r119.xLo r119.xHi 0))]) : Row22D)) svLen rfl (Nat.le_of_ble_eq_true rfl) hx142) ?_)
  intro w159 H160
  have hl161 : List.length (List.set d78 k77 (Sv.mk A152 c153 (x141.ls ++ [(EntryD.mk x68.xSeq (OpD.mk 5 ([]) ([]) r119.xLo r119.xHi 0))]) : Row22D)) = List.length (List.set l79 k77 (Ll.mk (x141.ls ++ [(EntryD.mk x68.xSeq (OpD.mk 5 ([]) ([]) r119.xLo r119.xHi 0))]))) := abs_len (map_set' hi86 rfl)
  have hl162 : List.length (List.set l79 k77 (Ll.mk (x141.ls ++ [(EntryD.mk x68.xSeq (OpD.mk 5 ([]) ([]) r119.xLo r119.xHi 0))]))) = l79.length := List.length_set
  refine ⟨.inl (by kernel_rfl), ?_⟩
  refine GX.done (by kernel_rfl) (Fin.blockN (Fin.then (Wp.region (WL.val (v := .int .i64 ((k77 + 1 : Nat) : Int)) rfl (Yl.int (e := IntKind.i64.wrap (((k77 : Nat) : Int) + 1)) (Yl.kern rfl rfl (fun _ => by kernel_rfl)) (by rw [IntWalk.i64_in _ (by omega)]; omega)) (Mv rfl rfl (WL.nil ?_))))))
  have H163 := H160.pick [3, 0, 4, 1] (by decide) rfl
  exact Fin.round (k77 + 1, (List.set d78 k77 (Sv.mk A152 c153 (x141.ls ++ [(EntryD.mk x68.xSeq (OpD.mk 5 ([]) ([]) r119.xLo r119.xHi 0))]) : Row22D)), (List.set l79 k77 (Ll.mk (x141.ls ++ [(EntryD.mk x68.xSeq (OpD.mk 5 ([]) ([]) r119.xLo r119.xHi 0))])))) ⟨rfl, rfl, rfl, rfl, rfl, rfl, rfl, rfl, rfl, rfl, rfl, rfl, rfl, rfl, rfl, rfl, rfl, rfl, trivial⟩ ⟨H163, (show List.map Row22D.abs (List.set d78 k77 (Sv.mk A152 c153 (x141.ls ++ [(EntryD.mk x68.xSeq (OpD.mk 5 ([]) ([]) r119.xLo r119.xHi 0))]) : Row22D)) = (List.set l79 k77 (Ll.mk (x141.ls ++ [(EntryD.mk x68.xSeq (OpD.mk 5 ([]) ([]) r119.xLo r119.xHi 0))]))) ∧ List.length (List.set l79 k77 (Ll.mk (x141.ls ++ [(EntryD.mk x68.xSeq (OpD.mk 5 ([]) ([]) r119.xLo r119.xHi 0))]))) = l1.length + 1 ∧ (k77 + 1) ≤ l1.length + 1 ∧ rl (List.set l79 k77 (Ll.mk (x141.ls ++ [(EntryD.mk x68.xSeq (OpD.mk 5 ([]) ([]) r119.xLo r119.xHi 0))]))) k53 (k77 + 1) ∧ buffer_Part_L1 l1 x68 (l1.length + 1) 0 l55 = buffer_Part_L1 l1 x68 ((l1.length + 1) - (k77 + 1)) (k77 + 1) (List.set l79 k77 (Ll.mk (x141.ls ++ [(EntryD.mk x68.xSeq (OpD.mk 5 ([]) ([]) r119.xLo r119.xHi 0))]))) from ⟨by exact (map_set' hi86 rfl), by first | omega | (simp only [List.length_set]; omega) | (simp only [List.length_replicate]), by omega, by first | assumption | exact rl_skip (by assumption) | exact rl_set (by assumption) (by assumption), Eq.trans (hq85) (Eq.trans (congrArg (fun q => buffer_Part_L1 l1 x68 q k77 l79) (sub_at (n := l1.length + 1) (i := k77) (by omega))) (Eq.trans (bnd_of hr100) (Eq.trans (bnd_of hr110) (Eq.trans (bnd_of hr121) (Eq.trans (if_pos h133) (bnd_of (getD_of hX143)))))))⟩)⟩ (by show (l1.length + 1) - (k77 + 1) < (l1.length + 1) - k77; omega)
  refine Wp.cond0 rfl h133 (Wp.skip (Fin.blockN (Fin.then (Wp.region (WL.val (v := .int .i64 ((k77 + 1 : Nat) : Int)) rfl (Yl.int (e := IntKind.i64.wrap (((k77 : Nat) : Int) + 1)) (Yl.kern rfl rfl (fun _ => by kernel_rfl)) (by rw [IntWalk.i64_in _ (by omega)]; omega)) (Mv rfl rfl (WL.nil ?_)))))))
  have H164 := H132.pick [0, 1, 2, 3] (by decide) rfl
  exact Fin.round (k77 + 1, d78, l79) ⟨rfl, rfl, rfl, rfl, rfl, rfl, rfl, rfl, rfl, rfl, rfl, rfl, rfl, rfl, rfl, rfl, rfl, rfl, trivial⟩ ⟨H164, (show List.map Row22D.abs d78 = l79 ∧ l79.length = l1.length + 1 ∧ (k77 + 1) ≤ l1.length + 1 ∧ rl l79 k53 (k77 + 1) ∧ buffer_Part_L1 l1 x68 (l1.length + 1) 0 l55 = buffer_Part_L1 l1 x68 ((l1.length + 1) - (k77 + 1)) (k77 + 1) l79 from ⟨by exact hi86, by first | omega | (simp only [List.length_set]; omega) | (simp only [List.length_replicate]), by omega, by first | assumption | exact rl_skip (by assumption) | exact rl_set (by assumption) (by assumption), Eq.trans (hq85) (Eq.trans (congrArg (fun q => buffer_Part_L1 l1 x68 q k77 l79) (sub_at (n := l1.length + 1) (i := k77) (by omega))) (Eq.trans (bnd_of hr100) (Eq.trans (bnd_of hr110) (Eq.trans (bnd_of hr121) (ifF h133)))))⟩)⟩ (by show (l1.length + 1) - (k77 + 1) < (l1.length + 1) - k77; omega)
  refine GY.do 10 rfl (by kernel_rfl) (Do.newP (cs := [.string ⟨List.toArray ([])⟩, .string ⟨List.toArray ([])⟩]) (t := 38) H113 rfl rfl (fun _ => by kernel_rfl) ?_)
  intro g165 w166 H167
  have H168 := H167.pick [1, 2, 3, 4, 0] (by decide) rfl
  refine ⟨.inr ⟨_, H168⟩, ?_⟩
  obtain ⟨⟨r174, r175⟩, hr176⟩ : ∃ q : RangeD × Bool, span_Meet r99 r109 = q := ⟨_, rfl⟩
  obtain ⟨D169, HP170, ro171, bk172, rr173⟩ := Own.enter0 H168
  refine GX.do 6 rfl (by kernel_rfl) (Do.call Try.call34 rfl (span_Meet_ok _ _ r99 r109 r174 r175 HP170 hr176) ?_)
  rintro _ w177 ⟨rfl, HQ178⟩
  have H179 := bk172 _ _ HQ178
  refine ⟨.inr ⟨_, H179⟩, ?_⟩
  refine GX.take (v := .tuple #[.agg (RangeD.cells r174).toArray, .bool r175]) (rs := []) 7 rfl (by kernel_rfl) (fun _ _ => Yl.move rfl) (GX.take (v := .agg (RangeD.cells r174).toArray) (rs := []) 8 rfl (by kernel_rfl) (fun _ _ => Yl.kern rfl rfl (fun _ => by kernel_rfl)) (GX.take (v := .bool r175) (rs := []) 9 rfl (by kernel_rfl) (fun _ _ => Yl.kern rfl rfl (fun _ => by kernel_rfl)) ?_))
  have H180 := H179.pick [4, 0, 1, 2, 3] (by decide) rfl
  refine GX.do0 11 rfl (by kernel_rfl) (Do.store (vs := (RangeD.cells r174)) (o := 0) H180 rfl rfl Try.sizeOf38 rfl rfl rfl rfl ?_)
  intro w181 H182
  have H183 := H182.pick [1, 2, 3, 4, 0] (by decide) rfl
  refine ⟨.inr ⟨_, H183⟩, ?_⟩
  refine GX.take (v := .bool r175) (rs := []) 12 rfl (by kernel_rfl) (fun _ _ => Yl.assign rfl) (GX.done (by kernel_rfl) (Fin.then (Wp.seq (Wp.region (Mv rfl rfl (WL.nil (Fin.then ?_)))))))
  rcases Bool.eq_false_or_eq_true (r175) with h184 | h184
  refine Wp.cond1 rfl h184 (Wp.seq (Wp.region (Kn (v := .pointer (some ⟨g165, 0, none⟩)) rfl rfl rfl (fun _ => by kernel_rfl) (WL.val (v := .string ⟨List.toArray r174.xLo⟩) rfl (Yl.load rfl (Lds.one Try.isAgg9 (Cls.of (H183.cls (i := 4) rfl) rfl))) (Kn (v := .pointer (some ⟨g165, 1, none⟩)) rfl rfl rfl (fun _ => by kernel_rfl) (WL.val (v := .string ⟨List.toArray r174.xHi⟩) rfl (Yl.load rfl (Lds.one Try.isAgg9 (Cls.of (H183.cls (i := 4) rfl) rfl))) (Kn (v := .agg #[.int .i64 5, .string ⟨List.toArray ([])⟩, .string ⟨List.toArray ([])⟩, .string ⟨List.toArray r174.xLo⟩, .string ⟨List.toArray r174.xHi⟩, .int .i64 0]) rfl rfl rfl (fun _ => by kernel_rfl) ?_)))))))
  refine WL.do rfl (Do.newP (cs := [.int .i64 0, .string ⟨List.toArray ([])⟩, .string ⟨List.toArray ([])⟩, .string ⟨List.toArray ([])⟩, .string ⟨List.toArray ([])⟩, .int .i64 0]) (t := 50) H183 rfl rfl (fun _ => by kernel_rfl) ?_)
  intro g185 w186 H187
  refine WL.do0 (Do.store (vs := [.int .i64 5, .string ⟨List.toArray ([])⟩, .string ⟨List.toArray ([])⟩, .string ⟨List.toArray r174.xLo⟩, .string ⟨List.toArray r174.xHi⟩, .int .i64 0]) (o := 0) H187 rfl rfl Try.sizeOf50 rfl rfl rfl rfl ?_)
  intro w188 H189
  refine WL.nil (Fin.then ?_)
  have H191 := H189.drew
  refine Wp.drawnX [11, 13] (fun W => ∃ L', Own w D W ([blk g185 [.int .i64 5, .string ⟨List.toArray ([])⟩, .string ⟨List.toArray ([])⟩, .string ⟨List.toArray r174.xLo⟩, .string ⟨List.toArray r174.xHi⟩, .int .i64 0] 50, blk g71 (EntryD.cells x68) 52, row A46 (l1.length + 1) (l1.length + 1) (List.flatMap (Sv.enc (β := EntryD)) d78) 22 1, blk g21 [.slice A1 l1.length c1] 30, sepL (List.flatMap Row22D.own d78), blk g165 (RangeD.cells r174) 38] ++ L')) (by kernel_rfl) (by kernel_rfl) (NoP.block (NoP.then (NoP.then (NoP.block (NoP.block (NoP.then (NoP.then (NoP.block (NoP.then NoP.base))))))))) ⟨_, H191⟩ ?_
  revert H191
  generalize World.drew w188 = w190
  intro H191
  refine GX.takeA (v := .slice A46 (l1.length + 1) (l1.length + 1)) 0 rfl (by kernel_rfl) (fun _ => Yl.move rfl) (GX.takeA (v := .int .i64 ((k77 : Nat) : Int)) 1 rfl (by kernel_rfl) (fun _ => Yl.move rfl) (GX.take (v := .slice A46 (l1.length + 1) (l1.length + 1)) (rs := [[5, 4], []]) 2 rfl (by kernel_rfl) (fun _ _ => Yl.move rfl) (GX.take (v := .int .i64 ((k77 : Nat) : Int)) (rs := [[5, 4], []]) 3 rfl (by kernel_rfl) (fun _ _ => Yl.move rfl) ?_)))
  obtain ⟨x192, hx193⟩ := at_of (ls := d78) (i := k77) (by first | omega | (simp; done) | (simp; omega))
  have hX194 := abs_at hi86 hx193
  have hz195 : x192.ls.length ≤ k53 := by first | exact rl_at (by assumption) hX194 | exact rl_at0 (by assumption) hX194
  refine GX.take (v := .pointer (some ⟨ab A46, ao A46 + k77 * 1, none⟩)) (rs := [[5], []]) 4 rfl (by kernel_rfl) (fun _ ⟨_, H9⟩ => Yl.indexAddr (El31) rfl rfl ((H9.rds (i := 2) rfl).addr (i := k77) (by omega)) (by omega)) (GX.take (v := .slice x192.A x192.ls.length x192.c) (rs := [[], []]) 5 rfl (by kernel_rfl) (fun _ ⟨_, H9⟩ => Yl.load rfl (Lds.one Try.isAgg22 (((H9.rds (i := 2) rfl).elem svLen hx193 (by decide)).at_ (k := 0) rfl))) (GX.take (v := .pointer (some ⟨g71, 0, none⟩)) (rs := [[10, 9, 7], []]) 6 rfl (by kernel_rfl) (fun _ _ => Yl.kern rfl rfl (fun _ => by kernel_rfl)) (GX.take (v := .int .u64 ((x68.xSeq : Nat) : Int)) (rs := [[10, 9], []]) 7 rfl (by kernel_rfl) (fun _ ⟨_, H9⟩ => Yl.load rfl (Lds.one Try.isAgg48 (Cls.of (H9.cls (i := 1) rfl) rfl))) (GX.take (v := .agg #[.int .i64 5, .string ⟨List.toArray ([])⟩, .string ⟨List.toArray ([])⟩, .string ⟨List.toArray r174.xLo⟩, .string ⟨List.toArray r174.xHi⟩, .int .i64 0]) (rs := [[10, 9], []]) 8 rfl (by kernel_rfl) (fun _ ⟨_, H9⟩ => Yl.load rfl (Lds.agg (cs := [.int .i64 5, .string ⟨List.toArray ([])⟩, .string ⟨List.toArray ([])⟩, .string ⟨List.toArray r174.xLo⟩, .string ⟨List.toArray r174.xHi⟩, .int .i64 0]) Try.isAgg50 Try.sizeOf50 ((H9.cls (i := 0) rfl).lit (k := 0) (m := 6) rfl))) (GX.take (v := .agg #[.int .u64 ((x68.xSeq : Nat) : Int), .int .i64 5, .string ⟨List.toArray ([])⟩, .string ⟨List.toArray ([])⟩, .string ⟨List.toArray r174.xLo⟩, .string ⟨List.toArray r174.xHi⟩, .int .i64 0]) (rs := [[10], []]) 9 rfl (by kernel_rfl) (fun _ _ => Yl.kern rfl rfl (fun _ => by kernel_rfl)) ?_)))))
  refine GX.do 10 rfl (by kernel_rfl) (Do.newRow (cs := [.int .u64 ((x68.xSeq : Nat) : Int), .int .i64 5, .string ⟨List.toArray ([])⟩, .string ⟨List.toArray ([])⟩, .string ⟨List.toArray r174.xLo⟩, .string ⟨List.toArray r174.xHi⟩, .int .i64 0]) (t := 52) (sz := 7) (m := 1) H191 rfl rfl (fun _ => by kernel_rfl) rfl (by decide) ?_)
  intro A196 w197 H198
  replace H198 : Own w D w197 [row A196 1 1 (List.flatMap EntryD.cells ([(EntryD.mk x68.xSeq (OpD.mk 5 ([]) ([]) r174.xLo r174.xHi 0))])) 52 7, blk g185 [.int .i64 5, .string ⟨List.toArray ([])⟩, .string ⟨List.toArray ([])⟩, .string ⟨List.toArray r174.xLo⟩, .string ⟨List.toArray r174.xHi⟩, .int .i64 0] 50, blk g71 (EntryD.cells x68) 52, row A46 (l1.length + 1) (l1.length + 1) (List.flatMap (Sv.enc (β := EntryD)) d78) 22 1, blk g21 [.slice A1 l1.length c1] 30, sepL (List.flatMap Row22D.own d78), blk g165 (RangeD.cells r174) 38] := H198
  have H199 := H198.pick [1, 2, 3, 4, 5, 6, 0] (by decide) rfl
  refine ⟨.inr ⟨_, H199⟩, ?_⟩
  have H200 := H199.pick [4, 0, 1, 2, 3, 5, 6] (by decide) rfl
  have H201 : Own w D w197 [row x192.A x192.ls.length x192.c (List.flatMap EntryD.cells x192.ls) 52 7, sepL (List.flatMap Row22D.own (List.take k77 d78) ++ List.flatMap Row22D.own (List.drop (k77 + 1) d78)), blk g185 [.int .i64 5, .string ⟨List.toArray ([])⟩, .string ⟨List.toArray ([])⟩, .string ⟨List.toArray r174.xLo⟩, .string ⟨List.toArray r174.xHi⟩, .int .i64 0] 50, blk g71 (EntryD.cells x68) 52, row A46 (l1.length + 1) (l1.length + 1) (List.flatMap (Sv.enc (β := EntryD)) d78) 22 1, blk g21 [.slice A1 l1.length c1] 30, blk g165 (RangeD.cells r174) 38, row A196 1 1 (List.flatMap EntryD.cells ([(EntryD.mk x68.xSeq (OpD.mk 5 ([]) ([]) r174.xLo r174.xHi 0))])) 52 7] := Own.sepOpen (f := Row22D.own) (i := k77) hx193 H200
  have hb202 := H201.rowC (i := 0) rfl
  refine GX.do 11 rfl (by kernel_rfl) (Do.appendW (k := x192.ls.length) (m := 1) (El22) H201 rfl rfl (src_of Try.underlying22 (H201.rds (i := 7) rfl) (flat_one EntryD.one ([(EntryD.mk x68.xSeq (OpD.mk 5 ([]) ([]) r174.xLo r174.xHi 0))]))) rfl (by omega) (s := List.length (x192.ls ++ [(EntryD.mk x68.xSeq (OpD.mk 5 ([]) ([]) r174.xLo r174.xHi 0))])) (by first | omega | (simp only [List.length_append, List.length_cons, List.length_nil] <;> omega)) (List.flatMap_append).symm ?_)
  intro A203 c204 w205 H206
  have hl207 : List.length (x192.ls ++ [(EntryD.mk x68.xSeq (OpD.mk 5 ([]) ([]) r174.xLo r174.xHi 0))]) = x192.ls.length + 1 := by simp only [List.length_append, List.length_cons, List.length_nil]
  refine ⟨.inl (by kernel_rfl), ?_⟩
  refine GX.takeA (v := .pointer (some ⟨ab A46, ao A46 + k77 * 1, none⟩)) 12 rfl (by kernel_rfl) (fun _ => Yl.indexAddr (El31) rfl rfl ((H206.rds (i := 4) rfl).addr (i := k77) (by omega)) (by omega)) ?_
  have H208 : Own w D w205 [sepL (List.flatMap Row22D.own (List.set d78 k77 (Sv.mk A203 c204 (x192.ls ++ [(EntryD.mk x68.xSeq (OpD.mk 5 ([]) ([]) r174.xLo r174.xHi 0))]) : Row22D))), blk g185 [.int .i64 5, .string ⟨List.toArray ([])⟩, .string ⟨List.toArray ([])⟩, .string ⟨List.toArray r174.xLo⟩, .string ⟨List.toArray r174.xHi⟩, .int .i64 0] 50, blk g71 (EntryD.cells x68) 52, row A46 (l1.length + 1) (l1.length + 1) (List.flatMap (Sv.enc (β := EntryD)) d78) 22 1, blk g21 [.slice A1 l1.length c1] 30, blk g165 (RangeD.cells r174) 38, row A196 1 1 (List.flatMap EntryD.cells ([(EntryD.mk x68.xSeq (OpD.mk 5 ([]) ([]) r174.xLo r174.xHi 0))])) 52 7] := Own.sepClose (f := Row22D.own) (y := (Sv.mk A203 c204 (x192.ls ++ [(EntryD.mk x68.xSeq (OpD.mk 5 ([]) ([]) r174.xLo r174.xHi 0))]) : Row22D)) hx193 H206
  have H209 := H208.pick [3, 0, 1, 2, 4, 5, 6] (by decide) rfl
  refine GX.do0 13 rfl (by kernel_rfl) (Do.storeRow (vs := [.slice A203 (List.length (x192.ls ++ [(EntryD.mk x68.xSeq (OpD.mk 5 ([]) ([]) r174.xLo r174.xHi 0))])) c204]) (o := k77 * 1 + 0) (q := ao A46 + k77 * 1) H209 rfl (by omega) rfl Try.sizeOf22 rfl rfl (Nat.le_of_ble_eq_true rfl) (store_fits svLen hx193 (Nat.le_of_ble_eq_true rfl)) (flat_set (y := (Sv.mk A203 c204 (x192.ls ++ [(EntryD.mk x68.xSeq (OpD.mk 5 ([]) ([]) r174.xLo r174.xHi 0))]) : Row22D)) svLen rfl (Nat.le_of_ble_eq_true rfl) hx193) ?_)
  intro w210 H211
  have hl212 : List.length (List.set d78 k77 (Sv.mk A203 c204 (x192.ls ++ [(EntryD.mk x68.xSeq (OpD.mk 5 ([]) ([]) r174.xLo r174.xHi 0))]) : Row22D)) = List.length (List.set l79 k77 (Ll.mk (x192.ls ++ [(EntryD.mk x68.xSeq (OpD.mk 5 ([]) ([]) r174.xLo r174.xHi 0))]))) := abs_len (map_set' hi86 rfl)
  have hl213 : List.length (List.set l79 k77 (Ll.mk (x192.ls ++ [(EntryD.mk x68.xSeq (OpD.mk 5 ([]) ([]) r174.xLo r174.xHi 0))]))) = l79.length := List.length_set
  refine ⟨.inl (by kernel_rfl), ?_⟩
  refine GX.done (by kernel_rfl) (Fin.blockN (Fin.then (Wp.region (WL.val (v := .int .i64 ((k77 + 1 : Nat) : Int)) rfl (Yl.int (e := IntKind.i64.wrap (((k77 : Nat) : Int) + 1)) (Yl.kern rfl rfl (fun _ => by kernel_rfl)) (by rw [IntWalk.i64_in _ (by omega)]; omega)) (Mv rfl rfl (WL.nil ?_))))))
  have H214 := H211.pick [3, 0, 4, 1] (by decide) rfl
  exact Fin.round (k77 + 1, (List.set d78 k77 (Sv.mk A203 c204 (x192.ls ++ [(EntryD.mk x68.xSeq (OpD.mk 5 ([]) ([]) r174.xLo r174.xHi 0))]) : Row22D)), (List.set l79 k77 (Ll.mk (x192.ls ++ [(EntryD.mk x68.xSeq (OpD.mk 5 ([]) ([]) r174.xLo r174.xHi 0))])))) ⟨rfl, rfl, rfl, rfl, rfl, rfl, rfl, rfl, rfl, rfl, rfl, rfl, rfl, rfl, rfl, rfl, rfl, rfl, trivial⟩ ⟨H214, (show List.map Row22D.abs (List.set d78 k77 (Sv.mk A203 c204 (x192.ls ++ [(EntryD.mk x68.xSeq (OpD.mk 5 ([]) ([]) r174.xLo r174.xHi 0))]) : Row22D)) = (List.set l79 k77 (Ll.mk (x192.ls ++ [(EntryD.mk x68.xSeq (OpD.mk 5 ([]) ([]) r174.xLo r174.xHi 0))]))) ∧ List.length (List.set l79 k77 (Ll.mk (x192.ls ++ [(EntryD.mk x68.xSeq (OpD.mk 5 ([]) ([]) r174.xLo r174.xHi 0))]))) = l1.length + 1 ∧ (k77 + 1) ≤ l1.length + 1 ∧ rl (List.set l79 k77 (Ll.mk (x192.ls ++ [(EntryD.mk x68.xSeq (OpD.mk 5 ([]) ([]) r174.xLo r174.xHi 0))]))) k53 (k77 + 1) ∧ buffer_Part_L1 l1 x68 (l1.length + 1) 0 l55 = buffer_Part_L1 l1 x68 ((l1.length + 1) - (k77 + 1)) (k77 + 1) (List.set l79 k77 (Ll.mk (x192.ls ++ [(EntryD.mk x68.xSeq (OpD.mk 5 ([]) ([]) r174.xLo r174.xHi 0))]))) from ⟨by exact (map_set' hi86 rfl), by first | omega | (simp only [List.length_set]; omega) | (simp only [List.length_replicate]), by omega, by first | assumption | exact rl_skip (by assumption) | exact rl_set (by assumption) (by assumption), Eq.trans (hq85) (Eq.trans (congrArg (fun q => buffer_Part_L1 l1 x68 q k77 l79) (sub_at (n := l1.length + 1) (i := k77) (by omega))) (Eq.trans (bnd_of hr100) (Eq.trans (bnd_of hr110) (Eq.trans (bnd_of hr176) (Eq.trans (if_pos h184) (bnd_of (getD_of hX194)))))))⟩)⟩ (by show (l1.length + 1) - (k77 + 1) < (l1.length + 1) - k77; omega)
  refine Wp.cond0 rfl h184 (Wp.skip (Fin.blockN (Fin.then (Wp.region (WL.val (v := .int .i64 ((k77 + 1 : Nat) : Int)) rfl (Yl.int (e := IntKind.i64.wrap (((k77 : Nat) : Int) + 1)) (Yl.kern rfl rfl (fun _ => by kernel_rfl)) (by rw [IntWalk.i64_in _ (by omega)]; omega)) (Mv rfl rfl (WL.nil ?_)))))))
  have H215 := H183.pick [0, 1, 2, 3] (by decide) rfl
  exact Fin.round (k77 + 1, d78, l79) ⟨rfl, rfl, rfl, rfl, rfl, rfl, rfl, rfl, rfl, rfl, rfl, rfl, rfl, rfl, rfl, rfl, rfl, rfl, trivial⟩ ⟨H215, (show List.map Row22D.abs d78 = l79 ∧ l79.length = l1.length + 1 ∧ (k77 + 1) ≤ l1.length + 1 ∧ rl l79 k53 (k77 + 1) ∧ buffer_Part_L1 l1 x68 (l1.length + 1) 0 l55 = buffer_Part_L1 l1 x68 ((l1.length + 1) - (k77 + 1)) (k77 + 1) l79 from ⟨by exact hi86, by first | omega | (simp only [List.length_set]; omega) | (simp only [List.length_replicate]), by omega, by first | assumption | exact rl_skip (by assumption) | exact rl_set (by assumption) (by assumption), Eq.trans (hq85) (Eq.trans (congrArg (fun q => buffer_Part_L1 l1 x68 q k77 l79) (sub_at (n := l1.length + 1) (i := k77) (by omega))) (Eq.trans (bnd_of hr100) (Eq.trans (bnd_of hr110) (Eq.trans (bnd_of hr176) (ifF h184)))))⟩)⟩ (by show (l1.length + 1) - (k77 + 1) < (l1.length + 1) - k77; omega)
  refine GY.do 10 rfl (by kernel_rfl) (Do.newP (cs := [.string ⟨List.toArray ([])⟩, .string ⟨List.toArray ([])⟩]) (t := 38) H103 rfl rfl (fun _ => by kernel_rfl) ?_)
  intro g216 w217 H218
  have H219 := H218.pick [1, 2, 3, 4, 0] (by decide) rfl
  refine ⟨.inr ⟨_, H219⟩, ?_⟩
  obtain ⟨r225, hr226⟩ : ∃ q, buffer_partRange l1 ((k77 : Nat) : Int) = q := ⟨_, rfl⟩
  obtain ⟨D220, HP221, ro222, bk223, rr224⟩ := Own.enter0 H219
  refine GX.do 5 rfl (by kernel_rfl) (Do.call Try.call36 rfl (buffer_partRange_ok _ _ A1 l1.length c1 l1 ((k77 : Nat) : Int) r225 HP221 (ro222 _ hx1) rfl (by omega) (by omega) hr226) ?_)
  rintro _ w227 ⟨rfl, HQ228⟩
  have H229 := bk223 _ _ HQ228
  refine ⟨.inr ⟨_, H229⟩, ?_⟩
  obtain ⟨⟨r235, r236⟩, hr237⟩ : ∃ q : RangeD × Bool, span_Meet r99 r225 = q := ⟨_, rfl⟩
  obtain ⟨D230, HP231, ro232, bk233, rr234⟩ := Own.enter0 H229
  refine GX.do 6 rfl (by kernel_rfl) (Do.call Try.call34 rfl (span_Meet_ok _ _ r99 r225 r235 r236 HP231 hr237) ?_)
  rintro _ w238 ⟨rfl, HQ239⟩
  have H240 := bk233 _ _ HQ239
  refine ⟨.inr ⟨_, H240⟩, ?_⟩
  refine GX.take (v := .tuple #[.agg (RangeD.cells r235).toArray, .bool r236]) (rs := []) 7 rfl (by kernel_rfl) (fun _ _ => Yl.move rfl) (GX.take (v := .agg (RangeD.cells r235).toArray) (rs := []) 8 rfl (by kernel_rfl) (fun _ _ => Yl.kern rfl rfl (fun _ => by kernel_rfl)) (GX.take (v := .bool r236) (rs := []) 9 rfl (by kernel_rfl) (fun _ _ => Yl.kern rfl rfl (fun _ => by kernel_rfl)) ?_))
  have H241 := H240.pick [4, 0, 1, 2, 3] (by decide) rfl
  refine GX.do0 11 rfl (by kernel_rfl) (Do.store (vs := (RangeD.cells r235)) (o := 0) H241 rfl rfl Try.sizeOf38 rfl rfl rfl rfl ?_)
  intro w242 H243
  have H244 := H243.pick [1, 2, 3, 4, 0] (by decide) rfl
  refine ⟨.inr ⟨_, H244⟩, ?_⟩
  refine GX.take (v := .bool r236) (rs := []) 12 rfl (by kernel_rfl) (fun _ _ => Yl.assign rfl) (GX.done (by kernel_rfl) (Fin.then (Wp.seq (Wp.region (Mv rfl rfl (WL.nil (Fin.then ?_)))))))
  rcases Bool.eq_false_or_eq_true (r236) with h245 | h245
  refine Wp.cond1 rfl h245 (Wp.seq (Wp.region (Kn (v := .pointer (some ⟨g216, 0, none⟩)) rfl rfl rfl (fun _ => by kernel_rfl) (WL.val (v := .string ⟨List.toArray r235.xLo⟩) rfl (Yl.load rfl (Lds.one Try.isAgg9 (Cls.of (H244.cls (i := 4) rfl) rfl))) (Kn (v := .pointer (some ⟨g216, 1, none⟩)) rfl rfl rfl (fun _ => by kernel_rfl) (WL.val (v := .string ⟨List.toArray r235.xHi⟩) rfl (Yl.load rfl (Lds.one Try.isAgg9 (Cls.of (H244.cls (i := 4) rfl) rfl))) (Kn (v := .agg #[.int .i64 5, .string ⟨List.toArray ([])⟩, .string ⟨List.toArray ([])⟩, .string ⟨List.toArray r235.xLo⟩, .string ⟨List.toArray r235.xHi⟩, .int .i64 0]) rfl rfl rfl (fun _ => by kernel_rfl) ?_)))))))
  refine WL.do rfl (Do.newP (cs := [.int .i64 0, .string ⟨List.toArray ([])⟩, .string ⟨List.toArray ([])⟩, .string ⟨List.toArray ([])⟩, .string ⟨List.toArray ([])⟩, .int .i64 0]) (t := 50) H244 rfl rfl (fun _ => by kernel_rfl) ?_)
  intro g246 w247 H248
  refine WL.do0 (Do.store (vs := [.int .i64 5, .string ⟨List.toArray ([])⟩, .string ⟨List.toArray ([])⟩, .string ⟨List.toArray r235.xLo⟩, .string ⟨List.toArray r235.xHi⟩, .int .i64 0]) (o := 0) H248 rfl rfl Try.sizeOf50 rfl rfl rfl rfl ?_)
  intro w249 H250
  refine WL.nil (Fin.then ?_)
  have H252 := H250.drew
  refine Wp.drawnX [11, 13] (fun W => ∃ L', Own w D W ([blk g246 [.int .i64 5, .string ⟨List.toArray ([])⟩, .string ⟨List.toArray ([])⟩, .string ⟨List.toArray r235.xLo⟩, .string ⟨List.toArray r235.xHi⟩, .int .i64 0] 50, blk g71 (EntryD.cells x68) 52, row A46 (l1.length + 1) (l1.length + 1) (List.flatMap (Sv.enc (β := EntryD)) d78) 22 1, blk g21 [.slice A1 l1.length c1] 30, sepL (List.flatMap Row22D.own d78), blk g216 (RangeD.cells r235) 38] ++ L')) (by kernel_rfl) (by kernel_rfl) (NoP.block (NoP.then (NoP.then (NoP.block (NoP.block (NoP.then (NoP.then (NoP.block (NoP.then NoP.base))))))))) ⟨_, H252⟩ ?_
  revert H252
  generalize World.drew w249 = w251
  intro H252
  refine GX.takeA (v := .slice A46 (l1.length + 1) (l1.length + 1)) 0 rfl (by kernel_rfl) (fun _ => Yl.move rfl) (GX.takeA (v := .int .i64 ((k77 : Nat) : Int)) 1 rfl (by kernel_rfl) (fun _ => Yl.move rfl) (GX.take (v := .slice A46 (l1.length + 1) (l1.length + 1)) (rs := [[5, 4], []]) 2 rfl (by kernel_rfl) (fun _ _ => Yl.move rfl) (GX.take (v := .int .i64 ((k77 : Nat) : Int)) (rs := [[5, 4], []]) 3 rfl (by kernel_rfl) (fun _ _ => Yl.move rfl) ?_)))
  obtain ⟨x253, hx254⟩ := at_of (ls := d78) (i := k77) (by first | omega | (simp; done) | (simp; omega))
  have hX255 := abs_at hi86 hx254
  have hz256 : x253.ls.length ≤ k53 := by first | exact rl_at (by assumption) hX255 | exact rl_at0 (by assumption) hX255
  refine GX.take (v := .pointer (some ⟨ab A46, ao A46 + k77 * 1, none⟩)) (rs := [[5], []]) 4 rfl (by kernel_rfl) (fun _ ⟨_, H9⟩ => Yl.indexAddr (El31) rfl rfl ((H9.rds (i := 2) rfl).addr (i := k77) (by omega)) (by omega)) (GX.take (v := .slice x253.A x253.ls.length x253.c) (rs := [[], []]) 5 rfl (by kernel_rfl) (fun _ ⟨_, H9⟩ => Yl.load rfl (Lds.one Try.isAgg22 (((H9.rds (i := 2) rfl).elem svLen hx254 (by decide)).at_ (k := 0) rfl))) (GX.take (v := .pointer (some ⟨g71, 0, none⟩)) (rs := [[10, 9, 7], []]) 6 rfl (by kernel_rfl) (fun _ _ => Yl.kern rfl rfl (fun _ => by kernel_rfl)) (GX.take (v := .int .u64 ((x68.xSeq : Nat) : Int)) (rs := [[10, 9], []]) 7 rfl (by kernel_rfl) (fun _ ⟨_, H9⟩ => Yl.load rfl (Lds.one Try.isAgg48 (Cls.of (H9.cls (i := 1) rfl) rfl))) (GX.take (v := .agg #[.int .i64 5, .string ⟨List.toArray ([])⟩, .string ⟨List.toArray ([])⟩, .string ⟨List.toArray r235.xLo⟩, .string ⟨List.toArray r235.xHi⟩, .int .i64 0]) (rs := [[10, 9], []]) 8 rfl (by kernel_rfl) (fun _ ⟨_, H9⟩ => Yl.load rfl (Lds.agg (cs := [.int .i64 5, .string ⟨List.toArray ([])⟩, .string ⟨List.toArray ([])⟩, .string ⟨List.toArray r235.xLo⟩, .string ⟨List.toArray r235.xHi⟩, .int .i64 0]) Try.isAgg50 Try.sizeOf50 ((H9.cls (i := 0) rfl).lit (k := 0) (m := 6) rfl))) (GX.take (v := .agg #[.int .u64 ((x68.xSeq : Nat) : Int), .int .i64 5, .string ⟨List.toArray ([])⟩, .string ⟨List.toArray ([])⟩, .string ⟨List.toArray r235.xLo⟩, .string ⟨List.toArray r235.xHi⟩, .int .i64 0]) (rs := [[10], []]) 9 rfl (by kernel_rfl) (fun _ _ => Yl.kern rfl rfl (fun _ => by kernel_rfl)) ?_)))))
  refine GX.do 10 rfl (by kernel_rfl) (Do.newRow (cs := [.int .u64 ((x68.xSeq : Nat) : Int), .int .i64 5, .string ⟨List.toArray ([])⟩, .string ⟨List.toArray ([])⟩, .string ⟨List.toArray r235.xLo⟩, .string ⟨List.toArray r235.xHi⟩, .int .i64 0]) (t := 52) (sz := 7) (m := 1) H252 rfl rfl (fun _ => by kernel_rfl) rfl (by decide) ?_)
  intro A257 w258 H259
  replace H259 : Own w D w258 [row A257 1 1 (List.flatMap EntryD.cells ([(EntryD.mk x68.xSeq (OpD.mk 5 ([]) ([]) r235.xLo r235.xHi 0))])) 52 7, blk g246 [.int .i64 5, .string ⟨List.toArray ([])⟩, .string ⟨List.toArray ([])⟩, .string ⟨List.toArray r235.xLo⟩, .string ⟨List.toArray r235.xHi⟩, .int .i64 0] 50, blk g71 (EntryD.cells x68) 52, row A46 (l1.length + 1) (l1.length + 1) (List.flatMap (Sv.enc (β := EntryD)) d78) 22 1, blk g21 [.slice A1 l1.length c1] 30, sepL (List.flatMap Row22D.own d78), blk g216 (RangeD.cells r235) 38] := H259
  have H260 := H259.pick [1, 2, 3, 4, 5, 6, 0] (by decide) rfl
  refine ⟨.inr ⟨_, H260⟩, ?_⟩
  have H261 := H260.pick [4, 0, 1, 2, 3, 5, 6] (by decide) rfl
  have H262 : Own w D w258 [row x253.A x253.ls.length x253.c (List.flatMap EntryD.cells x253.ls) 52 7, sepL (List.flatMap Row22D.own (List.take k77 d78) ++ List.flatMap Row22D.own (List.drop (k77 + 1) d78)), blk g246 [.int .i64 5, .string ⟨List.toArray ([])⟩, .string ⟨List.toArray ([])⟩, .string ⟨List.toArray r235.xLo⟩, .string ⟨List.toArray r235.xHi⟩, .int .i64 0] 50, blk g71 (EntryD.cells x68) 52, row A46 (l1.length + 1) (l1.length + 1) (List.flatMap (Sv.enc (β := EntryD)) d78) 22 1, blk g21 [.slice A1 l1.length c1] 30, blk g216 (RangeD.cells r235) 38, row A257 1 1 (List.flatMap EntryD.cells ([(EntryD.mk x68.xSeq (OpD.mk 5 ([]) ([]) r235.xLo r235.xHi 0))])) 52 7] := Own.sepOpen (f := Row22D.own) (i := k77) hx254 H261
  have hb263 := H262.rowC (i := 0) rfl
  refine GX.do 11 rfl (by kernel_rfl) (Do.appendW (k := x253.ls.length) (m := 1) (El22) H262 rfl rfl (src_of Try.underlying22 (H262.rds (i := 7) rfl) (flat_one EntryD.one ([(EntryD.mk x68.xSeq (OpD.mk 5 ([]) ([]) r235.xLo r235.xHi 0))]))) rfl (by omega) (s := List.length (x253.ls ++ [(EntryD.mk x68.xSeq (OpD.mk 5 ([]) ([]) r235.xLo r235.xHi 0))])) (by first | omega | (simp only [List.length_append, List.length_cons, List.length_nil] <;> omega)) (List.flatMap_append).symm ?_)
  intro A264 c265 w266 H267
  have hl268 : List.length (x253.ls ++ [(EntryD.mk x68.xSeq (OpD.mk 5 ([]) ([]) r235.xLo r235.xHi 0))]) = x253.ls.length + 1 := by simp only [List.length_append, List.length_cons, List.length_nil]
  refine ⟨.inl (by kernel_rfl), ?_⟩
  refine GX.takeA (v := .pointer (some ⟨ab A46, ao A46 + k77 * 1, none⟩)) 12 rfl (by kernel_rfl) (fun _ => Yl.indexAddr (El31) rfl rfl ((H267.rds (i := 4) rfl).addr (i := k77) (by omega)) (by omega)) ?_
  have H269 : Own w D w266 [sepL (List.flatMap Row22D.own (List.set d78 k77 (Sv.mk A264 c265 (x253.ls ++ [(EntryD.mk x68.xSeq (OpD.mk 5 ([]) ([]) r235.xLo r235.xHi 0))]) : Row22D))), blk g246 [.int .i64 5, .string ⟨List.toArray ([])⟩, .string ⟨List.toArray ([])⟩, .string ⟨List.toArray r235.xLo⟩, .string ⟨List.toArray r235.xHi⟩, .int .i64 0] 50, blk g71 (EntryD.cells x68) 52, row A46 (l1.length + 1) (l1.length + 1) (List.flatMap (Sv.enc (β := EntryD)) d78) 22 1, blk g21 [.slice A1 l1.length c1] 30, blk g216 (RangeD.cells r235) 38, row A257 1 1 (List.flatMap EntryD.cells ([(EntryD.mk x68.xSeq (OpD.mk 5 ([]) ([]) r235.xLo r235.xHi 0))])) 52 7] := Own.sepClose (f := Row22D.own) (y := (Sv.mk A264 c265 (x253.ls ++ [(EntryD.mk x68.xSeq (OpD.mk 5 ([]) ([]) r235.xLo r235.xHi 0))]) : Row22D)) hx254 H267
  have H270 := H269.pick [3, 0, 1, 2, 4, 5, 6] (by decide) rfl
  refine GX.do0 13 rfl (by kernel_rfl) (Do.storeRow (vs := [.slice A264 (List.length (x253.ls ++ [(EntryD.mk x68.xSeq (OpD.mk 5 ([]) ([]) r235.xLo r235.xHi 0))])) c265]) (o := k77 * 1 + 0) (q := ao A46 + k77 * 1) H270 rfl (by omega) rfl Try.sizeOf22 rfl rfl (Nat.le_of_ble_eq_true rfl) (store_fits svLen hx254 (Nat.le_of_ble_eq_true rfl)) (flat_set (y := (Sv.mk A264 c265 (x253.ls ++ [(EntryD.mk x68.xSeq (OpD.mk 5 ([]) ([]) r235.xLo r235.xHi 0))]) : Row22D)) svLen rfl (Nat.le_of_ble_eq_true rfl) hx254) ?_)
  intro w271 H272
  have hl273 : List.length (List.set d78 k77 (Sv.mk A264 c265 (x253.ls ++ [(EntryD.mk x68.xSeq (OpD.mk 5 ([]) ([]) r235.xLo r235.xHi 0))]) : Row22D)) = List.length (List.set l79 k77 (Ll.mk (x253.ls ++ [(EntryD.mk x68.xSeq (OpD.mk 5 ([]) ([]) r235.xLo r235.xHi 0))]))) := abs_len (map_set' hi86 rfl)
  have hl274 : List.length (List.set l79 k77 (Ll.mk (x253.ls ++ [(EntryD.mk x68.xSeq (OpD.mk 5 ([]) ([]) r235.xLo r235.xHi 0))]))) = l79.length := List.length_set
  refine ⟨.inl (by kernel_rfl), ?_⟩
  refine GX.done (by kernel_rfl) (Fin.blockN (Fin.then (Wp.region (WL.val (v := .int .i64 ((k77 + 1 : Nat) : Int)) rfl (Yl.int (e := IntKind.i64.wrap (((k77 : Nat) : Int) + 1)) (Yl.kern rfl rfl (fun _ => by kernel_rfl)) (by rw [IntWalk.i64_in _ (by omega)]; omega)) (Mv rfl rfl (WL.nil ?_))))))
  have H275 := H272.pick [3, 0, 4, 1] (by decide) rfl
  exact Fin.round (k77 + 1, (List.set d78 k77 (Sv.mk A264 c265 (x253.ls ++ [(EntryD.mk x68.xSeq (OpD.mk 5 ([]) ([]) r235.xLo r235.xHi 0))]) : Row22D)), (List.set l79 k77 (Ll.mk (x253.ls ++ [(EntryD.mk x68.xSeq (OpD.mk 5 ([]) ([]) r235.xLo r235.xHi 0))])))) ⟨rfl, rfl, rfl, rfl, rfl, rfl, rfl, rfl, rfl, rfl, rfl, rfl, rfl, rfl, rfl, rfl, rfl, rfl, trivial⟩ ⟨H275, (show List.map Row22D.abs (List.set d78 k77 (Sv.mk A264 c265 (x253.ls ++ [(EntryD.mk x68.xSeq (OpD.mk 5 ([]) ([]) r235.xLo r235.xHi 0))]) : Row22D)) = (List.set l79 k77 (Ll.mk (x253.ls ++ [(EntryD.mk x68.xSeq (OpD.mk 5 ([]) ([]) r235.xLo r235.xHi 0))]))) ∧ List.length (List.set l79 k77 (Ll.mk (x253.ls ++ [(EntryD.mk x68.xSeq (OpD.mk 5 ([]) ([]) r235.xLo r235.xHi 0))]))) = l1.length + 1 ∧ (k77 + 1) ≤ l1.length + 1 ∧ rl (List.set l79 k77 (Ll.mk (x253.ls ++ [(EntryD.mk x68.xSeq (OpD.mk 5 ([]) ([]) r235.xLo r235.xHi 0))]))) k53 (k77 + 1) ∧ buffer_Part_L1 l1 x68 (l1.length + 1) 0 l55 = buffer_Part_L1 l1 x68 ((l1.length + 1) - (k77 + 1)) (k77 + 1) (List.set l79 k77 (Ll.mk (x253.ls ++ [(EntryD.mk x68.xSeq (OpD.mk 5 ([]) ([]) r235.xLo r235.xHi 0))]))) from ⟨by exact (map_set' hi86 rfl), by first | omega | (simp only [List.length_set]; omega) | (simp only [List.length_replicate]), by omega, by first | assumption | exact rl_skip (by assumption) | exact rl_set (by assumption) (by assumption), Eq.trans (hq85) (Eq.trans (congrArg (fun q => buffer_Part_L1 l1 x68 q k77 l79) (sub_at (n := l1.length + 1) (i := k77) (by omega))) (Eq.trans (bnd_of hr100) (Eq.trans (bnd_of hr226) (Eq.trans (bnd_of hr237) (Eq.trans (if_pos h245) (bnd_of (getD_of hX255)))))))⟩)⟩ (by show (l1.length + 1) - (k77 + 1) < (l1.length + 1) - k77; omega)
  refine Wp.cond0 rfl h245 (Wp.skip (Fin.blockN (Fin.then (Wp.region (WL.val (v := .int .i64 ((k77 + 1 : Nat) : Int)) rfl (Yl.int (e := IntKind.i64.wrap (((k77 : Nat) : Int) + 1)) (Yl.kern rfl rfl (fun _ => by kernel_rfl)) (by rw [IntWalk.i64_in _ (by omega)]; omega)) (Mv rfl rfl (WL.nil ?_)))))))
  have H276 := H244.pick [0, 1, 2, 3] (by decide) rfl
  exact Fin.round (k77 + 1, d78, l79) ⟨rfl, rfl, rfl, rfl, rfl, rfl, rfl, rfl, rfl, rfl, rfl, rfl, rfl, rfl, rfl, rfl, rfl, rfl, trivial⟩ ⟨H276, (show List.map Row22D.abs d78 = l79 ∧ l79.length = l1.length + 1 ∧ (k77 + 1) ≤ l1.length + 1 ∧ rl l79 k53 (k77 + 1) ∧ buffer_Part_L1 l1 x68 (l1.length + 1) 0 l55 = buffer_Part_L1 l1 x68 ((l1.length + 1) - (k77 + 1)) (k77 + 1) l79 from ⟨by exact hi86, by first | omega | (simp only [List.length_set]; omega) | (simp only [List.length_replicate]), by omega, by first | assumption | exact rl_skip (by assumption) | exact rl_set (by assumption) (by assumption), Eq.trans (hq85) (Eq.trans (congrArg (fun q => buffer_Part_L1 l1 x68 q k77 l79) (sub_at (n := l1.length + 1) (i := k77) (by omega))) (Eq.trans (bnd_of hr100) (Eq.trans (bnd_of hr226) (Eq.trans (bnd_of hr237) (ifF h245)))))⟩)⟩ (by show (l1.length + 1) - (k77 + 1) < (l1.length + 1) - k77; omega)
  refine GY.do 10 rfl (by kernel_rfl) (Do.newP (cs := [.string ⟨List.toArray ([])⟩, .string ⟨List.toArray ([])⟩]) (t := 38) H93 rfl rfl (fun _ => by kernel_rfl) ?_)
  intro g277 w278 H279
  have H280 := H279.pick [1, 2, 3, 4, 0] (by decide) rfl
  refine ⟨.inr ⟨_, H280⟩, ?_⟩
  obtain ⟨r286, hr287⟩ : ∃ q, buffer_rangeOf x68.xOp = q := ⟨_, rfl⟩
  obtain ⟨D281, HP282, ro283, bk284, rr285⟩ := Own.enter0 H280
  refine GX.do 2 rfl (by kernel_rfl) (Do.call Try.call35 rfl (buffer_rangeOf_ok _ _ x68.xOp r286 HP282 hr287) ?_)
  rintro _ w288 ⟨rfl, HQ289⟩
  have H290 := bk284 _ _ HQ289
  refine ⟨.inr ⟨_, H290⟩, ?_⟩
  obtain ⟨r296, hr297⟩ : ∃ q, buffer_partRange l1 ((k77 : Nat) : Int) = q := ⟨_, rfl⟩
  obtain ⟨D291, HP292, ro293, bk294, rr295⟩ := Own.enter0 H290
  refine GX.do 5 rfl (by kernel_rfl) (Do.call Try.call36 rfl (buffer_partRange_ok _ _ A1 l1.length c1 l1 ((k77 : Nat) : Int) r296 HP292 (ro293 _ hx1) rfl (by omega) (by omega) hr297) ?_)
  rintro _ w298 ⟨rfl, HQ299⟩
  have H300 := bk294 _ _ HQ299
  refine ⟨.inr ⟨_, H300⟩, ?_⟩
  obtain ⟨⟨r306, r307⟩, hr308⟩ : ∃ q : RangeD × Bool, span_Meet r286 r296 = q := ⟨_, rfl⟩
  obtain ⟨D301, HP302, ro303, bk304, rr305⟩ := Own.enter0 H300
  refine GX.do 6 rfl (by kernel_rfl) (Do.call Try.call34 rfl (span_Meet_ok _ _ r286 r296 r306 r307 HP302 hr308) ?_)
  rintro _ w309 ⟨rfl, HQ310⟩
  have H311 := bk304 _ _ HQ310
  refine ⟨.inr ⟨_, H311⟩, ?_⟩
  refine GX.take (v := .tuple #[.agg (RangeD.cells r306).toArray, .bool r307]) (rs := []) 7 rfl (by kernel_rfl) (fun _ _ => Yl.move rfl) (GX.take (v := .agg (RangeD.cells r306).toArray) (rs := []) 8 rfl (by kernel_rfl) (fun _ _ => Yl.kern rfl rfl (fun _ => by kernel_rfl)) (GX.take (v := .bool r307) (rs := []) 9 rfl (by kernel_rfl) (fun _ _ => Yl.kern rfl rfl (fun _ => by kernel_rfl)) ?_))
  have H312 := H311.pick [4, 0, 1, 2, 3] (by decide) rfl
  refine GX.do0 11 rfl (by kernel_rfl) (Do.store (vs := (RangeD.cells r306)) (o := 0) H312 rfl rfl Try.sizeOf38 rfl rfl rfl rfl ?_)
  intro w313 H314
  have H315 := H314.pick [1, 2, 3, 4, 0] (by decide) rfl
  refine ⟨.inr ⟨_, H315⟩, ?_⟩
  refine GX.take (v := .bool r307) (rs := []) 12 rfl (by kernel_rfl) (fun _ _ => Yl.assign rfl) (GX.done (by kernel_rfl) (Fin.then (Wp.seq (Wp.region (Mv rfl rfl (WL.nil (Fin.then ?_)))))))
  rcases Bool.eq_false_or_eq_true (r307) with h316 | h316
  refine Wp.cond1 rfl h316 (Wp.seq (Wp.region (Kn (v := .pointer (some ⟨g277, 0, none⟩)) rfl rfl rfl (fun _ => by kernel_rfl) (WL.val (v := .string ⟨List.toArray r306.xLo⟩) rfl (Yl.load rfl (Lds.one Try.isAgg9 (Cls.of (H315.cls (i := 4) rfl) rfl))) (Kn (v := .pointer (some ⟨g277, 1, none⟩)) rfl rfl rfl (fun _ => by kernel_rfl) (WL.val (v := .string ⟨List.toArray r306.xHi⟩) rfl (Yl.load rfl (Lds.one Try.isAgg9 (Cls.of (H315.cls (i := 4) rfl) rfl))) (Kn (v := .agg #[.int .i64 5, .string ⟨List.toArray ([])⟩, .string ⟨List.toArray ([])⟩, .string ⟨List.toArray r306.xLo⟩, .string ⟨List.toArray r306.xHi⟩, .int .i64 0]) rfl rfl rfl (fun _ => by kernel_rfl) ?_)))))))
  refine WL.do rfl (Do.newP (cs := [.int .i64 0, .string ⟨List.toArray ([])⟩, .string ⟨List.toArray ([])⟩, .string ⟨List.toArray ([])⟩, .string ⟨List.toArray ([])⟩, .int .i64 0]) (t := 50) H315 rfl rfl (fun _ => by kernel_rfl) ?_)
  intro g317 w318 H319
  refine WL.do0 (Do.store (vs := [.int .i64 5, .string ⟨List.toArray ([])⟩, .string ⟨List.toArray ([])⟩, .string ⟨List.toArray r306.xLo⟩, .string ⟨List.toArray r306.xHi⟩, .int .i64 0]) (o := 0) H319 rfl rfl Try.sizeOf50 rfl rfl rfl rfl ?_)
  intro w320 H321
  refine WL.nil (Fin.then ?_)
  have H323 := H321.drew
  refine Wp.drawnX [11, 13] (fun W => ∃ L', Own w D W ([blk g317 [.int .i64 5, .string ⟨List.toArray ([])⟩, .string ⟨List.toArray ([])⟩, .string ⟨List.toArray r306.xLo⟩, .string ⟨List.toArray r306.xHi⟩, .int .i64 0] 50, blk g71 (EntryD.cells x68) 52, row A46 (l1.length + 1) (l1.length + 1) (List.flatMap (Sv.enc (β := EntryD)) d78) 22 1, blk g21 [.slice A1 l1.length c1] 30, sepL (List.flatMap Row22D.own d78), blk g277 (RangeD.cells r306) 38] ++ L')) (by kernel_rfl) (by kernel_rfl) (NoP.block (NoP.then (NoP.then (NoP.block (NoP.block (NoP.then (NoP.then (NoP.block (NoP.then NoP.base))))))))) ⟨_, H323⟩ ?_
  revert H323
  generalize World.drew w320 = w322
  intro H323
  refine GX.takeA (v := .slice A46 (l1.length + 1) (l1.length + 1)) 0 rfl (by kernel_rfl) (fun _ => Yl.move rfl) (GX.takeA (v := .int .i64 ((k77 : Nat) : Int)) 1 rfl (by kernel_rfl) (fun _ => Yl.move rfl) (GX.take (v := .slice A46 (l1.length + 1) (l1.length + 1)) (rs := [[5, 4], []]) 2 rfl (by kernel_rfl) (fun _ _ => Yl.move rfl) (GX.take (v := .int .i64 ((k77 : Nat) : Int)) (rs := [[5, 4], []]) 3 rfl (by kernel_rfl) (fun _ _ => Yl.move rfl) ?_)))
  obtain ⟨x324, hx325⟩ := at_of (ls := d78) (i := k77) (by first | omega | (simp; done) | (simp; omega))
  have hX326 := abs_at hi86 hx325
  have hz327 : x324.ls.length ≤ k53 := by first | exact rl_at (by assumption) hX326 | exact rl_at0 (by assumption) hX326
  refine GX.take (v := .pointer (some ⟨ab A46, ao A46 + k77 * 1, none⟩)) (rs := [[5], []]) 4 rfl (by kernel_rfl) (fun _ ⟨_, H9⟩ => Yl.indexAddr (El31) rfl rfl ((H9.rds (i := 2) rfl).addr (i := k77) (by omega)) (by omega)) (GX.take (v := .slice x324.A x324.ls.length x324.c) (rs := [[], []]) 5 rfl (by kernel_rfl) (fun _ ⟨_, H9⟩ => Yl.load rfl (Lds.one Try.isAgg22 (((H9.rds (i := 2) rfl).elem svLen hx325 (by decide)).at_ (k := 0) rfl))) (GX.take (v := .pointer (some ⟨g71, 0, none⟩)) (rs := [[10, 9, 7], []]) 6 rfl (by kernel_rfl) (fun _ _ => Yl.kern rfl rfl (fun _ => by kernel_rfl)) (GX.take (v := .int .u64 ((x68.xSeq : Nat) : Int)) (rs := [[10, 9], []]) 7 rfl (by kernel_rfl) (fun _ ⟨_, H9⟩ => Yl.load rfl (Lds.one Try.isAgg48 (Cls.of (H9.cls (i := 1) rfl) rfl))) (GX.take (v := .agg #[.int .i64 5, .string ⟨List.toArray ([])⟩, .string ⟨List.toArray ([])⟩, .string ⟨List.toArray r306.xLo⟩, .string ⟨List.toArray r306.xHi⟩, .int .i64 0]) (rs := [[10, 9], []]) 8 rfl (by kernel_rfl) (fun _ ⟨_, H9⟩ => Yl.load rfl (Lds.agg (cs := [.int .i64 5, .string ⟨List.toArray ([])⟩, .string ⟨List.toArray ([])⟩, .string ⟨List.toArray r306.xLo⟩, .string ⟨List.toArray r306.xHi⟩, .int .i64 0]) Try.isAgg50 Try.sizeOf50 ((H9.cls (i := 0) rfl).lit (k := 0) (m := 6) rfl))) (GX.take (v := .agg #[.int .u64 ((x68.xSeq : Nat) : Int), .int .i64 5, .string ⟨List.toArray ([])⟩, .string ⟨List.toArray ([])⟩, .string ⟨List.toArray r306.xLo⟩, .string ⟨List.toArray r306.xHi⟩, .int .i64 0]) (rs := [[10], []]) 9 rfl (by kernel_rfl) (fun _ _ => Yl.kern rfl rfl (fun _ => by kernel_rfl)) ?_)))))
  refine GX.do 10 rfl (by kernel_rfl) (Do.newRow (cs := [.int .u64 ((x68.xSeq : Nat) : Int), .int .i64 5, .string ⟨List.toArray ([])⟩, .string ⟨List.toArray ([])⟩, .string ⟨List.toArray r306.xLo⟩, .string ⟨List.toArray r306.xHi⟩, .int .i64 0]) (t := 52) (sz := 7) (m := 1) H323 rfl rfl (fun _ => by kernel_rfl) rfl (by decide) ?_)
  intro A328 w329 H330
  replace H330 : Own w D w329 [row A328 1 1 (List.flatMap EntryD.cells ([(EntryD.mk x68.xSeq (OpD.mk 5 ([]) ([]) r306.xLo r306.xHi 0))])) 52 7, blk g317 [.int .i64 5, .string ⟨List.toArray ([])⟩, .string ⟨List.toArray ([])⟩, .string ⟨List.toArray r306.xLo⟩, .string ⟨List.toArray r306.xHi⟩, .int .i64 0] 50, blk g71 (EntryD.cells x68) 52, row A46 (l1.length + 1) (l1.length + 1) (List.flatMap (Sv.enc (β := EntryD)) d78) 22 1, blk g21 [.slice A1 l1.length c1] 30, sepL (List.flatMap Row22D.own d78), blk g277 (RangeD.cells r306) 38] := H330
  have H331 := H330.pick [1, 2, 3, 4, 5, 6, 0] (by decide) rfl
  refine ⟨.inr ⟨_, H331⟩, ?_⟩
  have H332 := H331.pick [4, 0, 1, 2, 3, 5, 6] (by decide) rfl
  have H333 : Own w D w329 [row x324.A x324.ls.length x324.c (List.flatMap EntryD.cells x324.ls) 52 7, sepL (List.flatMap Row22D.own (List.take k77 d78) ++ List.flatMap Row22D.own (List.drop (k77 + 1) d78)), blk g317 [.int .i64 5, .string ⟨List.toArray ([])⟩, .string ⟨List.toArray ([])⟩, .string ⟨List.toArray r306.xLo⟩, .string ⟨List.toArray r306.xHi⟩, .int .i64 0] 50, blk g71 (EntryD.cells x68) 52, row A46 (l1.length + 1) (l1.length + 1) (List.flatMap (Sv.enc (β := EntryD)) d78) 22 1, blk g21 [.slice A1 l1.length c1] 30, blk g277 (RangeD.cells r306) 38, row A328 1 1 (List.flatMap EntryD.cells ([(EntryD.mk x68.xSeq (OpD.mk 5 ([]) ([]) r306.xLo r306.xHi 0))])) 52 7] := Own.sepOpen (f := Row22D.own) (i := k77) hx325 H332
  have hb334 := H333.rowC (i := 0) rfl
  refine GX.do 11 rfl (by kernel_rfl) (Do.appendW (k := x324.ls.length) (m := 1) (El22) H333 rfl rfl (src_of Try.underlying22 (H333.rds (i := 7) rfl) (flat_one EntryD.one ([(EntryD.mk x68.xSeq (OpD.mk 5 ([]) ([]) r306.xLo r306.xHi 0))]))) rfl (by omega) (s := List.length (x324.ls ++ [(EntryD.mk x68.xSeq (OpD.mk 5 ([]) ([]) r306.xLo r306.xHi 0))])) (by first | omega | (simp only [List.length_append, List.length_cons, List.length_nil] <;> omega)) (List.flatMap_append).symm ?_)
  intro A335 c336 w337 H338
  have hl339 : List.length (x324.ls ++ [(EntryD.mk x68.xSeq (OpD.mk 5 ([]) ([]) r306.xLo r306.xHi 0))]) = x324.ls.length + 1 := by simp only [List.length_append, List.length_cons, List.length_nil]
  refine ⟨.inl (by kernel_rfl), ?_⟩
  refine GX.takeA (v := .pointer (some ⟨ab A46, ao A46 + k77 * 1, none⟩)) 12 rfl (by kernel_rfl) (fun _ => Yl.indexAddr (El31) rfl rfl ((H338.rds (i := 4) rfl).addr (i := k77) (by omega)) (by omega)) ?_
  have H340 : Own w D w337 [sepL (List.flatMap Row22D.own (List.set d78 k77 (Sv.mk A335 c336 (x324.ls ++ [(EntryD.mk x68.xSeq (OpD.mk 5 ([]) ([]) r306.xLo r306.xHi 0))]) : Row22D))), blk g317 [.int .i64 5, .string ⟨List.toArray ([])⟩, .string ⟨List.toArray ([])⟩, .string ⟨List.toArray r306.xLo⟩, .string ⟨List.toArray r306.xHi⟩, .int .i64 0] 50, blk g71 (EntryD.cells x68) 52, row A46 (l1.length + 1) (l1.length + 1) (List.flatMap (Sv.enc (β := EntryD)) d78) 22 1, blk g21 [.slice A1 l1.length c1] 30, blk g277 (RangeD.cells r306) 38, row A328 1 1 (List.flatMap EntryD.cells ([(EntryD.mk x68.xSeq (OpD.mk 5 ([]) ([]) r306.xLo r306.xHi 0))])) 52 7] := Own.sepClose (f := Row22D.own) (y := (Sv.mk A335 c336 (x324.ls ++ [(EntryD.mk x68.xSeq (OpD.mk 5 ([]) ([]) r306.xLo r306.xHi 0))]) : Row22D)) hx325 H338
  have H341 := H340.pick [3, 0, 1, 2, 4, 5, 6] (by decide) rfl
  refine GX.do0 13 rfl (by kernel_rfl) (Do.storeRow (vs := [.slice A335 (List.length (x324.ls ++ [(EntryD.mk x68.xSeq (OpD.mk 5 ([]) ([]) r306.xLo r306.xHi 0))])) c336]) (o := k77 * 1 + 0) (q := ao A46 + k77 * 1) H341 rfl (by omega) rfl Try.sizeOf22 rfl rfl (Nat.le_of_ble_eq_true rfl) (store_fits svLen hx325 (Nat.le_of_ble_eq_true rfl)) (flat_set (y := (Sv.mk A335 c336 (x324.ls ++ [(EntryD.mk x68.xSeq (OpD.mk 5 ([]) ([]) r306.xLo r306.xHi 0))]) : Row22D)) svLen rfl (Nat.le_of_ble_eq_true rfl) hx325) ?_)
  intro w342 H343
  have hl344 : List.length (List.set d78 k77 (Sv.mk A335 c336 (x324.ls ++ [(EntryD.mk x68.xSeq (OpD.mk 5 ([]) ([]) r306.xLo r306.xHi 0))]) : Row22D)) = List.length (List.set l79 k77 (Ll.mk (x324.ls ++ [(EntryD.mk x68.xSeq (OpD.mk 5 ([]) ([]) r306.xLo r306.xHi 0))]))) := abs_len (map_set' hi86 rfl)
  have hl345 : List.length (List.set l79 k77 (Ll.mk (x324.ls ++ [(EntryD.mk x68.xSeq (OpD.mk 5 ([]) ([]) r306.xLo r306.xHi 0))]))) = l79.length := List.length_set
  refine ⟨.inl (by kernel_rfl), ?_⟩
  refine GX.done (by kernel_rfl) (Fin.blockN (Fin.then (Wp.region (WL.val (v := .int .i64 ((k77 + 1 : Nat) : Int)) rfl (Yl.int (e := IntKind.i64.wrap (((k77 : Nat) : Int) + 1)) (Yl.kern rfl rfl (fun _ => by kernel_rfl)) (by rw [IntWalk.i64_in _ (by omega)]; omega)) (Mv rfl rfl (WL.nil ?_))))))
  have H346 := H343.pick [3, 0, 4, 1] (by decide) rfl
  exact Fin.round (k77 + 1, (List.set d78 k77 (Sv.mk A335 c336 (x324.ls ++ [(EntryD.mk x68.xSeq (OpD.mk 5 ([]) ([]) r306.xLo r306.xHi 0))]) : Row22D)), (List.set l79 k77 (Ll.mk (x324.ls ++ [(EntryD.mk x68.xSeq (OpD.mk 5 ([]) ([]) r306.xLo r306.xHi 0))])))) ⟨rfl, rfl, rfl, rfl, rfl, rfl, rfl, rfl, rfl, rfl, rfl, rfl, rfl, rfl, rfl, rfl, rfl, rfl, trivial⟩ ⟨H346, (show List.map Row22D.abs (List.set d78 k77 (Sv.mk A335 c336 (x324.ls ++ [(EntryD.mk x68.xSeq (OpD.mk 5 ([]) ([]) r306.xLo r306.xHi 0))]) : Row22D)) = (List.set l79 k77 (Ll.mk (x324.ls ++ [(EntryD.mk x68.xSeq (OpD.mk 5 ([]) ([]) r306.xLo r306.xHi 0))]))) ∧ List.length (List.set l79 k77 (Ll.mk (x324.ls ++ [(EntryD.mk x68.xSeq (OpD.mk 5 ([]) ([]) r306.xLo r306.xHi 0))]))) = l1.length + 1 ∧ (k77 + 1) ≤ l1.length + 1 ∧ rl (List.set l79 k77 (Ll.mk (x324.ls ++ [(EntryD.mk x68.xSeq (OpD.mk 5 ([]) ([]) r306.xLo r306.xHi 0))]))) k53 (k77 + 1) ∧ buffer_Part_L1 l1 x68 (l1.length + 1) 0 l55 = buffer_Part_L1 l1 x68 ((l1.length + 1) - (k77 + 1)) (k77 + 1) (List.set l79 k77 (Ll.mk (x324.ls ++ [(EntryD.mk x68.xSeq (OpD.mk 5 ([]) ([]) r306.xLo r306.xHi 0))]))) from ⟨by exact (map_set' hi86 rfl), by first | omega | (simp only [List.length_set]; omega) | (simp only [List.length_replicate]), by omega, by first | assumption | exact rl_skip (by assumption) | exact rl_set (by assumption) (by assumption), Eq.trans (hq85) (Eq.trans (congrArg (fun q => buffer_Part_L1 l1 x68 q k77 l79) (sub_at (n := l1.length + 1) (i := k77) (by omega))) (Eq.trans (bnd_of hr287) (Eq.trans (bnd_of hr297) (Eq.trans (bnd_of hr308) (Eq.trans (if_pos h316) (bnd_of (getD_of hX326)))))))⟩)⟩ (by show (l1.length + 1) - (k77 + 1) < (l1.length + 1) - k77; omega)
  refine Wp.cond0 rfl h316 (Wp.skip (Fin.blockN (Fin.then (Wp.region (WL.val (v := .int .i64 ((k77 + 1 : Nat) : Int)) rfl (Yl.int (e := IntKind.i64.wrap (((k77 : Nat) : Int) + 1)) (Yl.kern rfl rfl (fun _ => by kernel_rfl)) (by rw [IntWalk.i64_in _ (by omega)]; omega)) (Mv rfl rfl (WL.nil ?_)))))))
  have H347 := H315.pick [0, 1, 2, 3] (by decide) rfl
  exact Fin.round (k77 + 1, d78, l79) ⟨rfl, rfl, rfl, rfl, rfl, rfl, rfl, rfl, rfl, rfl, rfl, rfl, rfl, rfl, rfl, rfl, rfl, rfl, trivial⟩ ⟨H347, (show List.map Row22D.abs d78 = l79 ∧ l79.length = l1.length + 1 ∧ (k77 + 1) ≤ l1.length + 1 ∧ rl l79 k53 (k77 + 1) ∧ buffer_Part_L1 l1 x68 (l1.length + 1) 0 l55 = buffer_Part_L1 l1 x68 ((l1.length + 1) - (k77 + 1)) (k77 + 1) l79 from ⟨by exact hi86, by first | omega | (simp only [List.length_set]; omega) | (simp only [List.length_replicate]), by omega, by first | assumption | exact rl_skip (by assumption) | exact rl_set (by assumption) (by assumption), Eq.trans (hq85) (Eq.trans (congrArg (fun q => buffer_Part_L1 l1 x68 q k77 l79) (sub_at (n := l1.length + 1) (i := k77) (by omega))) (Eq.trans (bnd_of hr287) (Eq.trans (bnd_of hr297) (Eq.trans (bnd_of hr308) (ifF h316)))))⟩)⟩ (by show (l1.length + 1) - (k77 + 1) < (l1.length + 1) - k77; omega)
  refine Wp.cond0 rfl (decide_eq_false h91) (Wp.exit (Fin.thenX ?_))
  have hL348 : buffer_Part_L1 l1 x68 (l1.length + 1) 0 l55 = l79 := Eq.trans (hq85) (Eq.trans (congrArg (fun q => buffer_Part_L1 l1 x68 q k77 l79) (sub_end (n := l1.length + 1) (i := k77) (by omega))) rfl)
  refine Fin.thenX (Fin.blockX (Fin.blockN (Fin.then (Wp.region (WL.val (v := .int .i64 ((k53 + 1 : Nat) : Int)) rfl (Yl.int (e := IntKind.i64.wrap (((k53 : Nat) : Int) + 1)) (Yl.kern rfl rfl (fun _ => by kernel_rfl)) (by rw [IntWalk.i64_in _ (by omega)]; omega)) (Mv rfl rfl (WL.nil ?_)))))))
  have H349 := H83.pick [1, 2, 3] (by decide) rfl
  exact Fin.round (k53 + 1, d78, l79) ⟨rfl, rfl, rfl, rfl, rfl, rfl, rfl, trivial⟩ ⟨H349, (show List.map Row22D.abs d78 = l79 ∧ l79.length = l1.length + 1 ∧ (k53 + 1) ≤ l0.length ∧ rl l79 (k53 + 1) 0 ∧ buffer_Part_L0 l1 l0 (List.replicate (l1.length + 1) (Ll.mk [] : Ll EntryD)) = buffer_Part_L0 l1 (List.drop (k53 + 1) l0) l79 from ⟨by exact hi86, by first | omega | (simp only [List.length_set]; omega) | (simp only [List.length_replicate]), by omega, by first | exact rl_rep _ _ | exact rl_end (by assumption) | exact rl_put (by assumption) (by assumption), Eq.trans (hq61) (Eq.trans (congrArg (fun q => buffer_Part_L0 l1 q l55) hd70) (Eq.trans (if_pos h76) (bnd_of hL348)))⟩)⟩ (by show l0.length - (k53 + 1) < l0.length - k53; omega)
  refine Wp.cond1 rfl (decide_eq_true h76) (Wp.seq (Wp.region (WL.val (v := .slice A1 l1.length c1) rfl (Yl.load rfl (Lds.one Try.isAgg30 (Cls.of (H75.cls (i := 2) rfl) rfl))) (Kn (v := .int .i64 ((l1.length : Nat) : Int)) rfl rfl rfl (fun _ => by kernel_rfl) (Kn (v := .func (.func 33) #[] #[.pointer (some ⟨g21, 0, none⟩), .pointer (some ⟨g71, 0, none⟩)]) rfl rfl rfl (fun _ => by kernel_rfl) ?_)))))
  have H350 := H75.pick [2, 0, 1, 3] (by decide) rfl
  obtain ⟨r356, hr357⟩ : ∃ q, sort_Search ((l1.length : Nat) : Int) l1 x68 = q := ⟨_, rfl⟩
  obtain ⟨D351, HP352, ro353, bk354, rr355⟩ := Own.enter2 H350
  refine WL.do rfl (Do.call Try.call32 rfl (sort_Search_ok _ _ ((l1.length : Nat) : Int) g21 l1 A1 c1 g71 x68 r356 HP352 (ro353 _ hx1) (show l1.length ≤ c1 ∧ l1.length ≤ 9223372036854775807 from by omega) (by omega) hr357) ?_)
  rintro _ w358 ⟨rfl, HQ359, hk361⟩
  have H360 := bk354 _ _ HQ359
  replace hk361 : 0 ≤ r356 ∧ r356 ≤ ((l1.length : Nat) : Int) := hk361
  refine As rfl rfl (WL.nil (Fin.then (Wp.seq ?_)))
  have H363 := H360.drew
  refine Wp.drawnX [8, 10] (fun W => ∃ L', Own w D W ([blk g21 [.slice A1 l1.length c1] 30, blk g71 (EntryD.cells x68) 52, row A46 (l1.length + 1) (l1.length + 1) (List.flatMap (Sv.enc (β := EntryD)) d54) 22 1, sepL (List.flatMap Row22D.own d54)] ++ L')) (by kernel_rfl) (by kernel_rfl) (NoP.then (NoP.then (NoP.block (NoP.then (NoP.then (NoP.block (NoP.then NoP.base))))))) ⟨_, H363⟩ ?_
  revert H363
  generalize World.drew w358 = w362
  intro H363
  refine GX.takeA (v := .slice A46 (l1.length + 1) (l1.length + 1)) 0 rfl (by kernel_rfl) (fun _ => Yl.move rfl) (GX.takeA (v := .int .i64 ((Int.toNat r356 : Nat) : Int)) 1 rfl (by kernel_rfl) (fun _ => Yl.int (e := r356) (Yl.move rfl) (by omega)) (GX.take (v := .slice A46 (l1.length + 1) (l1.length + 1)) (rs := [[5, 4], []]) 2 rfl (by kernel_rfl) (fun _ _ => Yl.move rfl) (GX.take (v := .int .i64 ((Int.toNat r356 : Nat) : Int)) (rs := [[5, 4], []]) 3 rfl (by kernel_rfl) (fun _ _ => Yl.int (e := r356) (Yl.move rfl) (by omega)) ?_)))
  obtain ⟨x364, hx365⟩ := at_of (ls := d54) (i := Int.toNat r356) (by first | omega | (simp; done) | (simp; omega))
  have hX366 := abs_at hi62 hx365
  have hz367 : x364.ls.length ≤ k53 := by first | exact rl_at (by assumption) hX366 | exact rl_at0 (by assumption) hX366
  refine GX.take (v := .pointer (some ⟨ab A46, ao A46 + (Int.toNat r356) * 1, none⟩)) (rs := [[5], []]) 4 rfl (by kernel_rfl) (fun _ ⟨_, H9⟩ => Yl.indexAddr (El31) rfl rfl ((H9.rds (i := 2) rfl).addr (i := Int.toNat r356) (by omega)) (by omega)) (GX.take (v := .slice x364.A x364.ls.length x364.c) (rs := [[], []]) 5 rfl (by kernel_rfl) (fun _ ⟨_, H9⟩ => Yl.load rfl (Lds.one Try.isAgg22 (((H9.rds (i := 2) rfl).elem svLen hx365 (by decide)).at_ (k := 0) rfl))) (GX.take (v := .agg (EntryD.cells x68).toArray) (rs := [[7], []]) 6 rfl (by kernel_rfl) (fun _ ⟨_, H9⟩ => Yl.load rfl (Lds.agg (cs := (EntryD.cells x68)) Try.isAgg52 Try.sizeOf52 ((H9.cls (i := 1) rfl).lit (k := 0) (m := 7) rfl))) ?_))
  refine GX.do 7 rfl (by kernel_rfl) (Do.newRow (cs := (EntryD.cells x68)) (t := 52) (sz := 7) (m := 1) H363 rfl rfl (fun _ => by kernel_rfl) rfl (by decide) ?_)
  intro A368 w369 H370
  replace H370 : Own w D w369 [row A368 1 1 (List.flatMap EntryD.cells ([x68])) 52 7, blk g21 [.slice A1 l1.length c1] 30, blk g71 (EntryD.cells x68) 52, row A46 (l1.length + 1) (l1.length + 1) (List.flatMap (Sv.enc (β := EntryD)) d54) 22 1, sepL (List.flatMap Row22D.own d54)] := H370
  have H371 := H370.pick [1, 2, 3, 4, 0] (by decide) rfl
  refine ⟨.inr ⟨_, H371⟩, ?_⟩
  have H372 := H371.pick [3, 0, 1, 2, 4] (by decide) rfl
  have H373 : Own w D w369 [row x364.A x364.ls.length x364.c (List.flatMap EntryD.cells x364.ls) 52 7, sepL (List.flatMap Row22D.own (List.take (Int.toNat r356) d54) ++ List.flatMap Row22D.own (List.drop (Int.toNat r356 + 1) d54)), blk g21 [.slice A1 l1.length c1] 30, blk g71 (EntryD.cells x68) 52, row A46 (l1.length + 1) (l1.length + 1) (List.flatMap (Sv.enc (β := EntryD)) d54) 22 1, row A368 1 1 (List.flatMap EntryD.cells ([x68])) 52 7] := Own.sepOpen (f := Row22D.own) (i := Int.toNat r356) hx365 H372
  have hb374 := H373.rowC (i := 0) rfl
  refine GX.do 8 rfl (by kernel_rfl) (Do.appendW (k := x364.ls.length) (m := 1) (El22) H373 rfl rfl (src_of Try.underlying22 (H373.rds (i := 5) rfl) (flat_one EntryD.one ([x68]))) rfl (by omega) (s := List.length (x364.ls ++ [x68])) (by first | omega | (simp only [List.length_append, List.length_cons, List.length_nil] <;> omega)) (List.flatMap_append).symm ?_)
  intro A375 c376 w377 H378
  have hl379 : List.length (x364.ls ++ [x68]) = x364.ls.length + 1 := by simp only [List.length_append, List.length_cons, List.length_nil]
  refine ⟨.inl (by kernel_rfl), ?_⟩
  refine GX.takeA (v := .pointer (some ⟨ab A46, ao A46 + (Int.toNat r356) * 1, none⟩)) 9 rfl (by kernel_rfl) (fun _ => Yl.indexAddr (El31) rfl rfl ((H378.rds (i := 4) rfl).addr (i := Int.toNat r356) (by omega)) (by omega)) ?_
  have H380 : Own w D w377 [sepL (List.flatMap Row22D.own (List.set d54 (Int.toNat r356) (Sv.mk A375 c376 (x364.ls ++ [x68]) : Row22D))), blk g21 [.slice A1 l1.length c1] 30, blk g71 (EntryD.cells x68) 52, row A46 (l1.length + 1) (l1.length + 1) (List.flatMap (Sv.enc (β := EntryD)) d54) 22 1, row A368 1 1 (List.flatMap EntryD.cells ([x68])) 52 7] := Own.sepClose (f := Row22D.own) (y := (Sv.mk A375 c376 (x364.ls ++ [x68]) : Row22D)) hx365 H378
  have H381 := H380.pick [3, 0, 1, 2, 4] (by decide) rfl
  refine GX.do0 10 rfl (by kernel_rfl) (Do.storeRow (vs := [.slice A375 (List.length (x364.ls ++ [x68])) c376]) (o := (Int.toNat r356) * 1 + 0) (q := ao A46 + (Int.toNat r356) * 1) H381 rfl (by omega) rfl Try.sizeOf22 rfl rfl (Nat.le_of_ble_eq_true rfl) (store_fits svLen hx365 (Nat.le_of_ble_eq_true rfl)) (flat_set (y := (Sv.mk A375 c376 (x364.ls ++ [x68]) : Row22D)) svLen rfl (Nat.le_of_ble_eq_true rfl) hx365) ?_)
  intro w382 H383
  have hl384 : List.length (List.set d54 (Int.toNat r356) (Sv.mk A375 c376 (x364.ls ++ [x68]) : Row22D)) = List.length (List.set l55 (Int.toNat r356) (Ll.mk (x364.ls ++ [x68]))) := abs_len (map_set' hi62 rfl)
  have hl385 : List.length (List.set l55 (Int.toNat r356) (Ll.mk (x364.ls ++ [x68]))) = l55.length := List.length_set
  refine ⟨.inl (by kernel_rfl), ?_⟩
  refine GX.done (by kernel_rfl) (Fin.then (Wp.exit (Fin.thenX (Fin.blockX (Fin.then (Wp.region (WL.val (v := .int .i64 ((k53 + 1 : Nat) : Int)) rfl (Yl.int (e := IntKind.i64.wrap (((k53 : Nat) : Int) + 1)) (Yl.kern rfl rfl (fun _ => by kernel_rfl)) (by rw [IntWalk.i64_in _ (by omega)]; omega)) (Mv rfl rfl (WL.nil ?_)))))))))
  have H386 := H383.pick [0, 2, 1] (by decide) rfl
  exact Fin.round (k53 + 1, (List.set d54 (Int.toNat r356) (Sv.mk A375 c376 (x364.ls ++ [x68]) : Row22D)), (List.set l55 (Int.toNat r356) (Ll.mk (x364.ls ++ [x68])))) ⟨rfl, rfl, rfl, rfl, rfl, rfl, rfl, trivial⟩ ⟨H386, (show List.map Row22D.abs (List.set d54 (Int.toNat r356) (Sv.mk A375 c376 (x364.ls ++ [x68]) : Row22D)) = (List.set l55 (Int.toNat r356) (Ll.mk (x364.ls ++ [x68]))) ∧ List.length (List.set l55 (Int.toNat r356) (Ll.mk (x364.ls ++ [x68]))) = l1.length + 1 ∧ (k53 + 1) ≤ l0.length ∧ rl (List.set l55 (Int.toNat r356) (Ll.mk (x364.ls ++ [x68]))) (k53 + 1) 0 ∧ buffer_Part_L0 l1 l0 (List.replicate (l1.length + 1) (Ll.mk [] : Ll EntryD)) = buffer_Part_L0 l1 (List.drop (k53 + 1) l0) (List.set l55 (Int.toNat r356) (Ll.mk (x364.ls ++ [x68]))) from ⟨by exact (map_set' hi62 rfl), by first | omega | (simp only [List.length_set]; omega) | (simp only [List.length_replicate]), by omega, by first | exact rl_rep _ _ | exact rl_end (by assumption) | exact rl_put (by assumption) (by assumption), Eq.trans (hq61) (Eq.trans (congrArg (fun q => buffer_Part_L0 l1 q l55) hd70) (Eq.trans (if_neg h76) (Eq.trans (bnd_of hr357) (bnd_of (getD_of hX366)))))⟩)⟩ (by show l0.length - (k53 + 1) < l0.length - k53; omega)
  refine Wp.cond0 rfl (decide_eq_false h67) (Wp.exit (Fin.thenX ?_))
  have hL387 : buffer_Part_L0 l1 l0 (List.replicate (l1.length + 1) (Ll.mk [] : Ll EntryD)) = l55 := Eq.trans (hq61) (Eq.trans (congrArg (fun q => buffer_Part_L0 l1 q l55) (drop_end (ls := l0) (i := k53) (by omega))) rfl)
  refine Fin.thenX (Fin.blockX (Fin.then (Wp.seq ?_)))
  have H388 := H59.pick [0, 2] (by decide) rfl
  refine Wp.region (Mv rfl rfl (As rfl rfl (As rfl rfl (WL.nil (Fin.then (Wp.ret (Fin.res (res2 rfl rfl rfl) ?_)))))))
  have hn389 : l1.length + 1 = l55.length := by first | omega | (simp only [List.length_set]; done) | (simp only [List.length_set, List.length_append, List.length_cons, List.length_nil, List.length_take, List.length_drop, List.length_replicate]; omega)
  have H390 : Own w D w58 [row A46 l55.length (l1.length + 1) (List.flatMap (Sv.enc (β := EntryD)) d54) 22 1, sepL (List.flatMap Row22D.own d54)] := by rw [← hn389]; exact H388
  have H391 := H390.pick [0, 1] (by decide) rfl
  have e : buffer_Part l0 l1 = (l55, 0) := Eq.trans (bnd_of hr30) (Eq.trans (if_pos h34) (Eq.trans (bnd_of hr41) (Eq.trans (if_pos h45) (bnd_of hL387))))
  obtain ⟨rfl, rfl⟩ := pj2 (e.symm.trans hr)
  exact ⟨A46, l1.length + 1, d54, (by first | rfl | (rw [← hn389]; done) | (rw [← hn389]; rfl)), H391, hi62, (by first | exact rl_nil _ | exact rl_mono (by assumption) (by omega)), (by first | omega | exact Nat.zero_le _)⟩
  refine Wp.cond1 rfl (decide_eq_true h45) (Wp.seq (Wp.region (Mv rfl rfl (As rfl rfl (As rfl rfl (WL.nil (Fin.then (Wp.ret (Fin.thenR (Fin.res (res2 rfl rfl rfl) ?_))))))))))
  have H392 : Own w D w42 [sepL (List.flatMap Row22D.own ([])), blk g21 [.slice A1 l1.length c1] 30] := H44.sepNil
  have H393 : Own w D w42 [row none 0 0 (List.flatMap (Sv.enc (β := EntryD)) ([])) 22 1, sepL (List.flatMap Row22D.own ([])), blk g21 [.slice A1 l1.length c1] 30] := H392.free (row_nil 22 1)
  have H394 := H393.pick [0, 1] (by decide) rfl
  have e : buffer_Part l0 l1 = ([], r40) := Eq.trans (bnd_of hr30) (Eq.trans (if_pos h34) (Eq.trans (bnd_of hr41) (if_neg h45)))
  obtain ⟨rfl, rfl⟩ := pj2 (e.symm.trans hr)
  exact ⟨none, 0, [], rfl, H394, rfl, (by first | exact rl_nil _ | exact rl_mono (by assumption) (by omega)), (by first | omega | exact Nat.zero_le _)⟩
  refine Wp.cond1 rfl (decide_eq_true h34) (Wp.seq (Wp.region (Mv rfl rfl (As rfl rfl (As rfl rfl (WL.nil (Fin.then (Wp.ret (Fin.thenR (Fin.res (res2 rfl rfl rfl) ?_))))))))))
  have H395 : Own w D w31 [sepL (List.flatMap Row22D.own ([])), blk g21 [.slice A1 l1.length c1] 30] := H33.sepNil
  have H396 : Own w D w31 [row none 0 0 (List.flatMap (Sv.enc (β := EntryD)) ([])) 22 1, sepL (List.flatMap Row22D.own ([])), blk g21 [.slice A1 l1.length c1] 30] := H395.free (row_nil 22 1)
  have H397 := H396.pick [0, 1] (by decide) rfl
  have e : buffer_Part l0 l1 = ([], r29) := Eq.trans (bnd_of hr30) (if_neg h34)
  obtain ⟨rfl, rfl⟩ := pj2 (e.symm.trans hr)
  exact ⟨none, 0, [], rfl, H397, rfl, (by first | exact rl_nil _ | exact rl_mono (by assumption) (by omega)), (by first | omega | exact Nat.zero_le _)⟩
end Go.Proofs.Ytblpdbnklopchaa
