/-
  buffer: what is overtaken.
-/
import Derived.Test.YtblpdbnklopchaaBb
namespace Go.Proofs.Ytblpdbnklopchaa
open Go.RowKit
set_option linter.unusedVariables false
set_option linter.unusedSectionVars false
set_option linter.unusedSimpArgs false

theorem El79 : Elem Try.prog 79 38 2 32 := elem_of (z := .agg #[.string ⟨List.toArray ([])⟩, .string ⟨List.toArray ([])⟩]) Try.underlying79 (by kernel_rfl) rfl (by decide)

def slices_IndexFunc_api_Range_api_Range_L0 (p1c0 : OpD) : List RangeD → Nat → Unit ⊕ Int
  | [], k21 => Sum.inl ()
  | x30 :: q22, k21 => bnd (buffer_rangeOf p1c0) fun yr43 => bnd (span_Covers x30 yr43) fun yr53 => if yr53 = true then Sum.inr ((k21 : Nat) : Int) else slices_IndexFunc_api_Range_api_Range_L0 p1c0 q22 (k21 + 1)

def slices_IndexFunc_api_Range_api_Range (l0 : List RangeD) (p1c0 : OpD) : Int :=
  lp (slices_IndexFunc_api_Range_api_Range_L0 p1c0 l0 0) fun _ => (-1)

set_option maxRecDepth 100000 in
theorem slices_IndexFunc_api_Range_api_Range_ok (w : World) (D : Nat → Prop) (A0 : Option Addr) (n0 c0 : Nat) (l0 : List RangeD) (g1c0 : Nat) (p1c0 : OpD) (r0 : Int) (H : Own w D w [blk g1c0 (OpD.cells p1c0) 50]) (hx0 : Ro w D fun w' => Rds w' 2 A0 n0 (List.flatMap RangeD.cells l0)) (hn0 : n0 = l0.length) (hl0 : l0.length * 32 ≤ 211106232532992) (hr : slices_IndexFunc_api_Range_api_Range l0 p1c0 = r0) :
    Calls Try.prog 72 #[.slice A0 n0 c0, .func (.func 54) #[] #[.pointer (some ⟨g1c0, 0, none⟩)]] w (Ret fun v w' => v = .int .i64 r0 ∧ Own w D w' [blk g1c0 (OpD.cells p1c0) 50]) := by
  subst hn0
  refine Calls.body (args := [.slice A0 l0.length c0, .func (.func 54) #[] #[.pointer (some ⟨g1c0, 0, none⟩)]]) Try.func72 rfl rfl rfl ?_
  show Wp _ _ _ [(0, .slice A0 l0.length c0), (1, .func (.func 54) #[] #[.pointer (some ⟨g1c0, 0, none⟩)])] _ _
  refine Wp.seq (Wp.region (As rfl rfl (WL.nil (Fin.then (Wp.seq (Wp.seq (Wp.region (Mv rfl rfl (Kn (v := .int .i64 ((l0.length : Nat) : Int)) rfl rfl rfl (fun _ => by kernel_rfl) (Mv rfl rfl (WL.nil (Fin.then (Wp.block ?_)))))))))))))
  have H23 : Own w D w [blk g1c0 (OpD.cells p1c0) 50] := H.pick [0] (by decide) rfl
  refine Wp.loop (ι := Nat) (fun i => [(4, .int .i64 0), (8, .int .i64 ((i : Nat) : Int)), (7, .int .i64 ((l0.length : Nat) : Int)), (0, .slice A0 l0.length c0), (1, .func (.func 54) #[] #[.pointer (some ⟨g1c0, 0, none⟩)])]) (fun (i : Nat) w' => Own w D w' [blk g1c0 (OpD.cells p1c0) 50] ∧ (i ≤ l0.length ∧ slices_IndexFunc_api_Range_api_Range_L0 p1c0 l0 0 = slices_IndexFunc_api_Range_api_Range_L0 p1c0 (List.drop i l0) i)) (fun i => l0.length - i) 0 ⟨rfl, rfl, rfl, rfl, rfl, trivial⟩ ⟨H23, (show 0 ≤ l0.length ∧ slices_IndexFunc_api_Range_api_Range_L0 p1c0 l0 0 = slices_IndexFunc_api_Range_api_Range_L0 p1c0 (List.drop 0 l0) 0 from ⟨by omega, rfl⟩)⟩ ?_
  rintro k21 w24 ⟨H25, hf26⟩
  show Wp _ _ _ [(4, .int .i64 0), (8, .int .i64 ((k21 : Nat) : Int)), (7, .int .i64 ((l0.length : Nat) : Int)), (0, .slice A0 l0.length c0), (1, .func (.func 54) #[] #[.pointer (some ⟨g1c0, 0, none⟩)])] _ _
  replace hf26 : k21 ≤ l0.length ∧ slices_IndexFunc_api_Range_api_Range_L0 p1c0 l0 0 = slices_IndexFunc_api_Range_api_Range_L0 p1c0 (List.drop k21 l0) k21 := hf26
  obtain ⟨hi28, hq27⟩ := hf26
  refine Wp.seq (Wp.region (Kn (v := .bool (decide (((k21 : Nat) : Int) < ((l0.length : Nat) : Int)))) rfl rfl rfl (fun _ => by kernel_rfl) (WL.nil (Fin.then (Wp.seq ?_)))))
  by_cases h29 : ((k21 : Nat) : Int) < ((l0.length : Nat) : Int)
  obtain ⟨x30, hx31⟩ := rds_at (ls := l0) (i := k21) RangeD.len (by decide) (H25.ro hx0) (by first | omega | (simp; done) | (simp; omega))
  have hd32 := drop_at hx31
  refine Wp.cond1 rfl (decide_eq_true h29) (Wp.skip (Fin.then (Wp.seq (Wp.block (Wp.seq (Wp.region (Mv rfl rfl (As rfl rfl (WL.nil (Fin.then (Wp.seq (Wp.region (Mv rfl rfl (Mv rfl rfl (Mv rfl rfl (WL.val (v := .pointer (some ⟨ab A0, ao A0 + k21 * 2, none⟩)) rfl (Yl.indexAddr (El79) rfl rfl ((H25.ro hx0).addr (i := k21) (by omega)) (by omega)) (WL.val (v := .agg (RangeD.cells x30).toArray) rfl (Yl.load rfl (Lds.agg (cs := (RangeD.cells x30)) Try.isAgg38 Try.sizeOf38 ((H25.ro hx0).elem RangeD.len hx31 (by decide)))) ?_)))))))))))))))))
  refine WL.do rfl (Do.callV Try.call54 rfl rfl ?_ (fun _ _ k => k))
  refine Calls.body (args := [.agg (RangeD.cells x30).toArray, .pointer (some ⟨g1c0, 0, none⟩)]) Try.func54 rfl rfl rfl ?_
  show Wp _ _ _ [(0, .agg (RangeD.cells x30).toArray), (1, .pointer (some ⟨g1c0, 0, none⟩))] _ _
  refine Wp.seq (Wp.region ?_)
  refine WL.do rfl (Do.newP (cs := (RangeD.cells x30)) (t := 38) H25 rfl rfl (fun _ => by kernel_rfl) ?_)
  intro g33 w34 H35
  refine As rfl rfl (WL.nil (Fin.then (Wp.seq ?_)))
  have H37 := H35.drew
  refine Wp.drawnX [] (fun W => ∃ L', Own w D W ([blk g33 (RangeD.cells x30) 38, blk g1c0 (OpD.cells p1c0) 50] ++ L')) (by kernel_rfl) (by kernel_rfl) (NoP.then NoP.base) ⟨_, H37⟩ ?_
  revert H37
  generalize World.drew w34 = w36
  intro H37
  refine GX.take (v := .agg (RangeD.cells x30).toArray) (rs := []) 0 rfl (by kernel_rfl) (fun _ ⟨_, H9⟩ => Yl.load rfl (Lds.agg (cs := (RangeD.cells x30)) Try.isAgg38 Try.sizeOf38 ((H9.cls (i := 0) rfl).lit (k := 0) (m := 2) rfl))) (GX.take (v := .agg (OpD.cells p1c0).toArray) (rs := []) 1 rfl (by kernel_rfl) (fun _ ⟨_, H9⟩ => Yl.load rfl (Lds.agg (cs := (OpD.cells p1c0)) Try.isAgg50 Try.sizeOf50 ((H9.cls (i := 1) rfl).lit (k := 0) (m := 6) rfl))) ?_)
  obtain ⟨r43, hr44⟩ : ∃ q, buffer_rangeOf p1c0 = q := ⟨_, rfl⟩
  obtain ⟨D38, HP39, ro40, bk41, rr42⟩ := Own.enter0 H37
  refine GX.do 2 rfl (by kernel_rfl) (Do.call Try.call35 rfl (buffer_rangeOf_ok _ _ p1c0 r43 HP39 hr44) ?_)
  rintro _ w45 ⟨rfl, HQ46⟩
  have H47 := bk41 _ _ HQ46
  refine ⟨.inr ⟨_, H47⟩, ?_⟩
  obtain ⟨r53, hr54⟩ : ∃ q, span_Covers x30 r43 = q := ⟨_, rfl⟩
  obtain ⟨D48, HP49, ro50, bk51, rr52⟩ := Own.enter0 H47
  refine GX.do 3 rfl (by kernel_rfl) (Do.call Try.call55 rfl (span_Covers_ok _ _ x30 r43 r53 HP49 hr54) ?_)
  rintro _ w55 ⟨rfl, HQ56⟩
  have H57 := bk51 _ _ HQ56
  refine ⟨.inr ⟨_, H57⟩, ?_⟩
  refine GX.take (v := .bool r53) (rs := []) 4 rfl (by kernel_rfl) (fun _ _ => Yl.assign rfl) (GX.done (by kernel_rfl) (Fin.then (Wp.ret (Fin.res (res1 rfl rfl) (WL.nil (Fin.then ?_))))))
  rcases Bool.eq_false_or_eq_true (r53) with h58 | h58
  refine Wp.cond1 rfl h58 (Wp.seq ?_)
  have H59 := H57.pick [1] (by decide) rfl
  refine Wp.region (Mv rfl rfl (As rfl rfl (WL.nil (Fin.then (Wp.ret (Fin.blockR (Fin.thenR (Fin.thenR (Fin.blockR (Fin.thenR (Fin.res (res1 rfl rfl) ?_)))))))))))
  have H60 := H59.pick [0] (by decide) rfl
  have e : slices_IndexFunc_api_Range_api_Range l0 p1c0 = ((k21 : Nat) : Int) := lp_r (Eq.trans (hq27) (Eq.trans (congrArg (fun q => slices_IndexFunc_api_Range_api_Range_L0 p1c0 q k21) hd32) (Eq.trans (bnd_of hr44) (Eq.trans (bnd_of hr54) (if_pos h58)))))
  obtain rfl := e.symm.trans hr
  exact ⟨rfl, H60⟩
  refine Wp.cond0 rfl h58 (Wp.skip (Fin.blockN (Fin.then ?_)))
  have H61 := H57.pick [1] (by decide) rfl
  refine Wp.region (WL.val (v := .int .i64 ((k21 + 1 : Nat) : Int)) rfl (Yl.int (e := IntKind.i64.wrap (((k21 : Nat) : Int) + 1)) (Yl.kern rfl rfl (fun _ => by kernel_rfl)) (by rw [IntWalk.i64_in _ (by omega)]; omega)) (Mv rfl rfl (WL.nil ?_)))
  have H62 := H61.pick [0] (by decide) rfl
  exact Fin.round (k21 + 1) ⟨rfl, rfl, rfl, rfl, rfl, trivial⟩ ⟨H62, (show (k21 + 1) ≤ l0.length ∧ slices_IndexFunc_api_Range_api_Range_L0 p1c0 l0 0 = slices_IndexFunc_api_Range_api_Range_L0 p1c0 (List.drop (k21 + 1) l0) (k21 + 1) from ⟨by omega, Eq.trans (hq27) (Eq.trans (congrArg (fun q => slices_IndexFunc_api_Range_api_Range_L0 p1c0 q k21) hd32) (Eq.trans (bnd_of hr44) (Eq.trans (bnd_of hr54) (ifF h58))))⟩)⟩ (by show l0.length - (k21 + 1) < l0.length - k21; omega)
  refine Wp.cond0 rfl (decide_eq_false h29) (Wp.exit (Fin.thenX ?_))
  have hL63 : slices_IndexFunc_api_Range_api_Range_L0 p1c0 l0 0 = Sum.inl () := Eq.trans (hq27) (Eq.trans (congrArg (fun q => slices_IndexFunc_api_Range_api_Range_L0 p1c0 q k21) (drop_end (ls := l0) (i := k21) (by omega))) rfl)
  refine Fin.thenX (Fin.blockX (Fin.then (Wp.seq (Wp.region (As rfl rfl (WL.nil (Fin.then (Wp.ret (Fin.res (res1 rfl rfl) ?_)))))))))
  have H64 := H25.pick [0] (by decide) rfl
  have e : slices_IndexFunc_api_Range_api_Range l0 p1c0 = (-1) := lp_l hL63
  obtain rfl := e.symm.trans hr
  exact ⟨rfl, H64⟩

def slices_ContainsFunc_api_Range_api_Range (l0 : List RangeD) (p1c0 : OpD) : Bool :=
  bnd (slices_IndexFunc_api_Range_api_Range l0 p1c0) fun yr26 => decide (yr26 ≥ 0)

set_option maxRecDepth 100000 in
theorem slices_ContainsFunc_api_Range_api_Range_ok (w : World) (D : Nat → Prop) (A0 : Option Addr) (n0 c0 : Nat) (l0 : List RangeD) (g1c0 : Nat) (p1c0 : OpD) (r0 : Bool) (H : Own w D w [blk g1c0 (OpD.cells p1c0) 50]) (hx0 : Ro w D fun w' => Rds w' 2 A0 n0 (List.flatMap RangeD.cells l0)) (hn0 : n0 = l0.length) (hl0 : l0.length * 32 ≤ 211106232532992) (hr : slices_ContainsFunc_api_Range_api_Range l0 p1c0 = r0) :
    Calls Try.prog 53 #[.slice A0 n0 c0, .func (.func 54) #[] #[.pointer (some ⟨g1c0, 0, none⟩)]] w (Ret fun v w' => v = .bool r0 ∧ Own w D w' [blk g1c0 (OpD.cells p1c0) 50]) := by
  subst hn0
  refine Calls.body (args := [.slice A0 l0.length c0, .func (.func 54) #[] #[.pointer (some ⟨g1c0, 0, none⟩)]]) Try.func53 rfl rfl rfl ?_
  show Wp _ _ _ [(0, .slice A0 l0.length c0), (1, .func (.func 54) #[] #[.pointer (some ⟨g1c0, 0, none⟩)])] _ _
  refine Wp.seq (Wp.region (As rfl rfl (WL.nil (Fin.then (Wp.seq (Wp.region (Mv rfl rfl (Mv rfl rfl ?_))))))))
  obtain ⟨r26, hr27⟩ : ∃ q, slices_IndexFunc_api_Range_api_Range l0 p1c0 = q := ⟨_, rfl⟩
  obtain ⟨D21, HP22, ro23, bk24, rr25⟩ := Own.enter1 H
  refine WL.do rfl (Do.call Try.call72 rfl (slices_IndexFunc_api_Range_api_Range_ok _ _ A0 l0.length c0 l0 g1c0 p1c0 r26 HP22 (ro23 _ hx0) rfl (by omega) hr27) ?_)
  rintro _ w28 ⟨rfl, HQ29⟩
  have H30 := bk24 _ _ HQ29
  refine Kn (v := .bool (decide (r26 ≥ 0))) rfl rfl rfl (fun _ => by kernel_rfl) (As rfl rfl (WL.nil (Fin.then (Wp.ret (Fin.res (res1 rfl rfl) ?_)))))
  have H31 := H30.pick [0] (by decide) rfl
  have e : slices_ContainsFunc_api_Range_api_Range l0 p1c0 = decide (r26 ≥ 0) := bnd_of hr27
  obtain rfl := e.symm.trans hr
  exact ⟨rfl, H31⟩

def slices_IndexFunc_api_Range_api_Rangex_L0 (p1c0 : OpD) : List RangeD → Nat → Unit ⊕ Int
  | [], k21 => Sum.inl ()
  | x30 :: q22, k21 => bnd (span_Has x30 p1c0.xKey) fun yr41 => if yr41 = true then Sum.inr ((k21 : Nat) : Int) else slices_IndexFunc_api_Range_api_Rangex_L0 p1c0 q22 (k21 + 1)

def slices_IndexFunc_api_Range_api_Rangex (l0 : List RangeD) (p1c0 : OpD) : Int :=
  lp (slices_IndexFunc_api_Range_api_Rangex_L0 p1c0 l0 0) fun _ => (-1)

set_option maxRecDepth 100000 in
theorem slices_IndexFunc_api_Range_api_Rangex_ok (w : World) (D : Nat → Prop) (A0 : Option Addr) (n0 c0 : Nat) (l0 : List RangeD) (g1c0 : Nat) (p1c0 : OpD) (r0 : Int) (H : Own w D w [blk g1c0 (OpD.cells p1c0) 50]) (hx0 : Ro w D fun w' => Rds w' 2 A0 n0 (List.flatMap RangeD.cells l0)) (hn0 : n0 = l0.length) (hl0 : l0.length * 32 ≤ 211106232532992) (hr : slices_IndexFunc_api_Range_api_Rangex l0 p1c0 = r0) :
    Calls Try.prog 72 #[.slice A0 n0 c0, .func (.func 56) #[] #[.pointer (some ⟨g1c0, 0, none⟩)]] w (Ret fun v w' => v = .int .i64 r0 ∧ Own w D w' [blk g1c0 (OpD.cells p1c0) 50]) := by
  subst hn0
  refine Calls.body (args := [.slice A0 l0.length c0, .func (.func 56) #[] #[.pointer (some ⟨g1c0, 0, none⟩)]]) Try.func72 rfl rfl rfl ?_
  show Wp _ _ _ [(0, .slice A0 l0.length c0), (1, .func (.func 56) #[] #[.pointer (some ⟨g1c0, 0, none⟩)])] _ _
  refine Wp.seq (Wp.region (As rfl rfl (WL.nil (Fin.then (Wp.seq (Wp.seq (Wp.region (Mv rfl rfl (Kn (v := .int .i64 ((l0.length : Nat) : Int)) rfl rfl rfl (fun _ => by kernel_rfl) (Mv rfl rfl (WL.nil (Fin.then (Wp.block ?_)))))))))))))
  have H23 : Own w D w [blk g1c0 (OpD.cells p1c0) 50] := H.pick [0] (by decide) rfl
  refine Wp.loop (ι := Nat) (fun i => [(4, .int .i64 0), (8, .int .i64 ((i : Nat) : Int)), (7, .int .i64 ((l0.length : Nat) : Int)), (0, .slice A0 l0.length c0), (1, .func (.func 56) #[] #[.pointer (some ⟨g1c0, 0, none⟩)])]) (fun (i : Nat) w' => Own w D w' [blk g1c0 (OpD.cells p1c0) 50] ∧ (i ≤ l0.length ∧ slices_IndexFunc_api_Range_api_Rangex_L0 p1c0 l0 0 = slices_IndexFunc_api_Range_api_Rangex_L0 p1c0 (List.drop i l0) i)) (fun i => l0.length - i) 0 ⟨rfl, rfl, rfl, rfl, rfl, trivial⟩ ⟨H23, (show 0 ≤ l0.length ∧ slices_IndexFunc_api_Range_api_Rangex_L0 p1c0 l0 0 = slices_IndexFunc_api_Range_api_Rangex_L0 p1c0 (List.drop 0 l0) 0 from ⟨by omega, rfl⟩)⟩ ?_
  rintro k21 w24 ⟨H25, hf26⟩
  show Wp _ _ _ [(4, .int .i64 0), (8, .int .i64 ((k21 : Nat) : Int)), (7, .int .i64 ((l0.length : Nat) : Int)), (0, .slice A0 l0.length c0), (1, .func (.func 56) #[] #[.pointer (some ⟨g1c0, 0, none⟩)])] _ _
  replace hf26 : k21 ≤ l0.length ∧ slices_IndexFunc_api_Range_api_Rangex_L0 p1c0 l0 0 = slices_IndexFunc_api_Range_api_Rangex_L0 p1c0 (List.drop k21 l0) k21 := hf26
  obtain ⟨hi28, hq27⟩ := hf26
  refine Wp.seq (Wp.region (Kn (v := .bool (decide (((k21 : Nat) : Int) < ((l0.length : Nat) : Int)))) rfl rfl rfl (fun _ => by kernel_rfl) (WL.nil (Fin.then (Wp.seq ?_)))))
  by_cases h29 : ((k21 : Nat) : Int) < ((l0.length : Nat) : Int)
  obtain ⟨x30, hx31⟩ := rds_at (ls := l0) (i := k21) RangeD.len (by decide) (H25.ro hx0) (by first | omega | (simp; done) | (simp; omega))
  have hd32 := drop_at hx31
  refine Wp.cond1 rfl (decide_eq_true h29) (Wp.skip (Fin.then (Wp.seq (Wp.block (Wp.seq (Wp.region (Mv rfl rfl (As rfl rfl (WL.nil (Fin.then (Wp.seq (Wp.region (Mv rfl rfl (Mv rfl rfl (Mv rfl rfl (WL.val (v := .pointer (some ⟨ab A0, ao A0 + k21 * 2, none⟩)) rfl (Yl.indexAddr (El79) rfl rfl ((H25.ro hx0).addr (i := k21) (by omega)) (by omega)) (WL.val (v := .agg (RangeD.cells x30).toArray) rfl (Yl.load rfl (Lds.agg (cs := (RangeD.cells x30)) Try.isAgg38 Try.sizeOf38 ((H25.ro hx0).elem RangeD.len hx31 (by decide)))) ?_)))))))))))))))))
  refine WL.do rfl (Do.callV Try.call56 rfl rfl ?_ (fun _ _ k => k))
  refine Calls.body (args := [.agg (RangeD.cells x30).toArray, .pointer (some ⟨g1c0, 0, none⟩)]) Try.func56 rfl rfl rfl ?_
  show Wp _ _ _ [(0, .agg (RangeD.cells x30).toArray), (1, .pointer (some ⟨g1c0, 0, none⟩))] _ _
  refine Wp.seq (Wp.region ?_)
  refine WL.do rfl (Do.newP (cs := (RangeD.cells x30)) (t := 38) H25 rfl rfl (fun _ => by kernel_rfl) ?_)
  intro g33 w34 H35
  refine As rfl rfl (WL.nil (Fin.then (Wp.seq (Wp.region (WL.val (v := .agg (RangeD.cells x30).toArray) rfl (Yl.load rfl (Lds.agg (cs := (RangeD.cells x30)) Try.isAgg38 Try.sizeOf38 ((H35.cls (i := 0) rfl).lit (k := 0) (m := 2) rfl))) (Kn (v := .pointer (some ⟨g1c0, 1, none⟩)) rfl rfl rfl (fun _ => by kernel_rfl) (WL.val (v := .string ⟨List.toArray p1c0.xKey⟩) rfl (Yl.load rfl (Lds.one Try.isAgg9 (Cls.of (H35.cls (i := 1) rfl) rfl))) ?_)))))))
  obtain ⟨r41, hr42⟩ : ∃ q, span_Has x30 p1c0.xKey = q := ⟨_, rfl⟩
  obtain ⟨D36, HP37, ro38, bk39, rr40⟩ := Own.enter0 H35
  refine WL.do rfl (Do.call Try.call45 rfl (span_Has_ok _ _ x30 p1c0.xKey r41 HP37 hr42) ?_)
  rintro _ w43 ⟨rfl, HQ44⟩
  have H45 := bk39 _ _ HQ44
  refine As rfl rfl (WL.nil (Fin.then (Wp.ret (Fin.res (res1 rfl rfl) (WL.nil (Fin.then ?_))))))
  rcases Bool.eq_false_or_eq_true (r41) with h46 | h46
  refine Wp.cond1 rfl h46 (Wp.seq ?_)
  have H47 := H45.pick [1] (by decide) rfl
  refine Wp.region (Mv rfl rfl (As rfl rfl (WL.nil (Fin.then (Wp.ret (Fin.blockR (Fin.thenR (Fin.thenR (Fin.blockR (Fin.thenR (Fin.res (res1 rfl rfl) ?_)))))))))))
  have H48 := H47.pick [0] (by decide) rfl
  have e : slices_IndexFunc_api_Range_api_Rangex l0 p1c0 = ((k21 : Nat) : Int) := lp_r (Eq.trans (hq27) (Eq.trans (congrArg (fun q => slices_IndexFunc_api_Range_api_Rangex_L0 p1c0 q k21) hd32) (Eq.trans (bnd_of hr42) (if_pos h46))))
  obtain rfl := e.symm.trans hr
  exact ⟨rfl, H48⟩
  refine Wp.cond0 rfl h46 (Wp.skip (Fin.blockN (Fin.then ?_)))
  have H49 := H45.pick [1] (by decide) rfl
  refine Wp.region (WL.val (v := .int .i64 ((k21 + 1 : Nat) : Int)) rfl (Yl.int (e := IntKind.i64.wrap (((k21 : Nat) : Int) + 1)) (Yl.kern rfl rfl (fun _ => by kernel_rfl)) (by rw [IntWalk.i64_in _ (by omega)]; omega)) (Mv rfl rfl (WL.nil ?_)))
  have H50 := H49.pick [0] (by decide) rfl
  exact Fin.round (k21 + 1) ⟨rfl, rfl, rfl, rfl, rfl, trivial⟩ ⟨H50, (show (k21 + 1) ≤ l0.length ∧ slices_IndexFunc_api_Range_api_Rangex_L0 p1c0 l0 0 = slices_IndexFunc_api_Range_api_Rangex_L0 p1c0 (List.drop (k21 + 1) l0) (k21 + 1) from ⟨by omega, Eq.trans (hq27) (Eq.trans (congrArg (fun q => slices_IndexFunc_api_Range_api_Rangex_L0 p1c0 q k21) hd32) (Eq.trans (bnd_of hr42) (ifF h46)))⟩)⟩ (by show l0.length - (k21 + 1) < l0.length - k21; omega)
  refine Wp.cond0 rfl (decide_eq_false h29) (Wp.exit (Fin.thenX ?_))
  have hL51 : slices_IndexFunc_api_Range_api_Rangex_L0 p1c0 l0 0 = Sum.inl () := Eq.trans (hq27) (Eq.trans (congrArg (fun q => slices_IndexFunc_api_Range_api_Rangex_L0 p1c0 q k21) (drop_end (ls := l0) (i := k21) (by omega))) rfl)
  refine Fin.thenX (Fin.blockX (Fin.then (Wp.seq (Wp.region (As rfl rfl (WL.nil (Fin.then (Wp.ret (Fin.res (res1 rfl rfl) ?_)))))))))
  have H52 := H25.pick [0] (by decide) rfl
  have e : slices_IndexFunc_api_Range_api_Rangex l0 p1c0 = (-1) := lp_l hL51
  obtain rfl := e.symm.trans hr
  exact ⟨rfl, H52⟩

def slices_ContainsFunc_api_Range_api_Rangex (l0 : List RangeD) (p1c0 : OpD) : Bool :=
  bnd (slices_IndexFunc_api_Range_api_Rangex l0 p1c0) fun yr26 => decide (yr26 ≥ 0)

set_option maxRecDepth 100000 in
theorem slices_ContainsFunc_api_Range_api_Rangex_ok (w : World) (D : Nat → Prop) (A0 : Option Addr) (n0 c0 : Nat) (l0 : List RangeD) (g1c0 : Nat) (p1c0 : OpD) (r0 : Bool) (H : Own w D w [blk g1c0 (OpD.cells p1c0) 50]) (hx0 : Ro w D fun w' => Rds w' 2 A0 n0 (List.flatMap RangeD.cells l0)) (hn0 : n0 = l0.length) (hl0 : l0.length * 32 ≤ 211106232532992) (hr : slices_ContainsFunc_api_Range_api_Rangex l0 p1c0 = r0) :
    Calls Try.prog 53 #[.slice A0 n0 c0, .func (.func 56) #[] #[.pointer (some ⟨g1c0, 0, none⟩)]] w (Ret fun v w' => v = .bool r0 ∧ Own w D w' [blk g1c0 (OpD.cells p1c0) 50]) := by
  subst hn0
  refine Calls.body (args := [.slice A0 l0.length c0, .func (.func 56) #[] #[.pointer (some ⟨g1c0, 0, none⟩)]]) Try.func53 rfl rfl rfl ?_
  show Wp _ _ _ [(0, .slice A0 l0.length c0), (1, .func (.func 56) #[] #[.pointer (some ⟨g1c0, 0, none⟩)])] _ _
  refine Wp.seq (Wp.region (As rfl rfl (WL.nil (Fin.then (Wp.seq (Wp.region (Mv rfl rfl (Mv rfl rfl ?_))))))))
  obtain ⟨r26, hr27⟩ : ∃ q, slices_IndexFunc_api_Range_api_Rangex l0 p1c0 = q := ⟨_, rfl⟩
  obtain ⟨D21, HP22, ro23, bk24, rr25⟩ := Own.enter1 H
  refine WL.do rfl (Do.call Try.call72 rfl (slices_IndexFunc_api_Range_api_Rangex_ok _ _ A0 l0.length c0 l0 g1c0 p1c0 r26 HP22 (ro23 _ hx0) rfl (by omega) hr27) ?_)
  rintro _ w28 ⟨rfl, HQ29⟩
  have H30 := bk24 _ _ HQ29
  refine Kn (v := .bool (decide (r26 ≥ 0))) rfl rfl rfl (fun _ => by kernel_rfl) (As rfl rfl (WL.nil (Fin.then (Wp.ret (Fin.res (res1 rfl rfl) ?_)))))
  have H31 := H30.pick [0] (by decide) rfl
  have e : slices_ContainsFunc_api_Range_api_Rangex l0 p1c0 = decide (r26 ≥ 0) := bnd_of hr27
  obtain rfl := e.symm.trans hr
  exact ⟨rfl, H31⟩

def buffer_Squeeze_L0 : List EntryD → List EntryD → List RangeD → List (List UInt8 × Int) → (List EntryD)
  | [], l59, l62, m63 => l59
  | x48 :: q64, l59, l62, m63 => if x48.xOp.xKind = 5 then bnd (slices_ContainsFunc_api_Range_api_Range l62 x48.xOp) fun yr109 => if yr109 = true then buffer_Squeeze_L0 q64 l59 l62 m63 else bnd (buffer_rangeOf x48.xOp) fun yr127 => buffer_Squeeze_L0 q64 (l59 ++ [x48]) (l62 ++ [yr127]) m63 else bnd (mget m63 x48.xOp.xKey) fun yo159 => if Option.isSome yo159 = true then buffer_Squeeze_L0 q64 l59 l62 m63 else bnd (slices_ContainsFunc_api_Range_api_Rangex l62 x48.xOp) fun yr168 => if yr168 = true then buffer_Squeeze_L0 q64 l59 l62 m63 else buffer_Squeeze_L0 q64 (l59 ++ [x48]) l62 (mput m63 x48.xOp.xKey 1)

def buffer_Squeeze_L1 : Nat → Nat → Int → List EntryD → (List EntryD)
  | 0, k212, z213, l214 => default
  | q215 + 1, k212, z213, l214 => if ((k212 : Nat) : Int) < z213 then bnd (List.getD l214 (Int.toNat z213) default) fun yx232 => bnd (List.getD l214 k212 default) fun yx234 => buffer_Squeeze_L1 q215 (k212 + 1) (z213 - 1) (List.set (List.set l214 k212 yx232) (Int.toNat z213) yx234) else l214

def buffer_Squeeze (l0 : List EntryD) : (List EntryD) × Int :=
  bnd (buffer_Check l0) fun yr26 => if yr26 = 0 then bnd (buffer_Squeeze_L0 (List.reverse l0) ([]) ([]) ([])) fun sLrbtL => bnd (buffer_Squeeze_L1 ((Int.toNat ((((sLrbtL.length : Nat) : Int) - 1) + 1)) + 1) 0 (((sLrbtL.length : Nat) : Int) - 1) sLrbtL) fun sLrbtLaL => (sLrbtLaL, 0) else ([], yr26)

set_option maxRecDepth 100000 in
theorem buffer_Squeeze_ok (w : World) (D : Nat → Prop) (A0 : Option Addr) (n0 c0 : Nat) (l0 : List EntryD) (r0 : List EntryD) (r1 : Int) (H : Own w D w []) (hx0 : Ro w D fun w' => Rds w' 7 A0 n0 (List.flatMap EntryD.cells l0)) (hn0 : n0 = l0.length) (hl0 : l0.length * 88 ≤ 211106232532992) (hr : buffer_Squeeze l0 = (r0, r1)) :
    Calls Try.prog 22 #[.slice A0 n0 c0] w (Ret fun v w' => ∃ (B0 : Option Addr) (b0 : Nat), v = .tuple #[.slice B0 r0.length b0, .int .i64 r1] ∧ Own w D w' [row B0 r0.length b0 (List.flatMap EntryD.cells r0) 52 7] ∧ (r0.length ≤ l0.length)) := by
  subst hn0
  refine Calls.bodyF (args := [.slice A0 l0.length c0]) Try.func22 rfl rfl rfl ?_
  show Wf _ _ _ _ _ [(0, .slice A0 l0.length c0)] _ _
  refine Wf.seq (Wf.region (Lf.val (v := .slice none 0 0) rfl rfl (Yl.assign rfl) (Lf.val (v := .int .i64 0) rfl rfl (Yl.assign rfl) (Lf.nil (Ff.then (Wf.seq (Wf.seq (Wf.region (Lf.val (v := .slice A0 l0.length c0) rfl rfl (Yl.move rfl) ?_)))))))))
  obtain ⟨r26, hr27⟩ : ∃ q, buffer_Check l0 = q := ⟨_, rfl⟩
  obtain ⟨D21, HP22, ro23, bk24, rr25⟩ := Own.enter0 H
  refine Lf.do rfl (Do.df rfl (Do.call Try.call10 rfl (buffer_Check_ok _ _ A0 l0.length c0 l0 r26 HP22 (ro23 _ hx0) rfl (by omega) hr27) ?_))
  rintro _ w28 ⟨rfl, HQ29⟩
  have H30 := bk24 _ _ HQ29
  refine Lf.val (v := .int .i64 r26) rfl rfl (Yl.assign rfl) (Lf.nil (Ff.then (Wf.seq (Wf.region (Lf.val (v := .int .i64 r26) rfl rfl (Yl.move rfl) (Lf.val (v := .bool (decide (¬ (r26 = 0)))) rfl rfl (Yl.bool (e := !(decide (r26 = 0))) (Yl.kern rfl rfl (fun _ => by kernel_rfl)) decide_not.symm) (Lf.nil (Ff.then ?_))))))))
  by_cases h31 : r26 = 0
  refine Wf.cond0 rfl (decide_eq_false (not_not_intro h31)) (Wf.skip (Ff.then (Wf.seq (Wf.region ?_))))
  refine Lf.do rfl (Do.df rfl (Do.makeMap (κ := List UInt8) (ν := Int) kS kI H30 ?_))
  intro g32 w33 H34
  refine Lf.val (v := .agg #[.map (some g32), .slice none 0 0]) rfl rfl (Yl.kern rfl rfl (fun _ => by kernel_rfl)) ?_
  refine Lf.do rfl (Do.df rfl (Do.newP (cs := [.map none, .slice none 0 0]) (t := 81) H34 rfl rfl (fun _ => by kernel_rfl) ?_))
  intro g35 w36 H37
  refine Lf.do0 (Do.df rfl (Do.store (vs := [.map (some g32), .slice none 0 0]) (o := 0) H37 rfl rfl Try.sizeOf81 rfl rfl rfl rfl ?_))
  intro w38 H39
  refine Lf.nil (Ff.then (Wf.seq (Wf.region ?_)))
  refine Lf.do rfl (Do.df rfl (Do.newP (cs := [.slice none 0 0]) (t := 22) H39 rfl rfl (fun _ => by kernel_rfl) ?_))
  intro g40 w41 H42
  refine Lf.nil (Ff.then (Wf.seq (Wf.seq (Wf.region (Lf.val (v := .slice A0 l0.length c0) rfl rfl (Yl.move rfl) ?_)))))
  refine Lf.do rfl (Do.df rfl (Do.call Try.call24 rfl ?_ (fun _ _ k => k)))
  refine Calls.body (args := [.slice A0 l0.length c0]) Try.func24 rfl rfl rfl ?_
  show Wp _ _ _ [(0, .slice A0 l0.length c0)] _ _
  refine Wp.seq (Wp.region ?_)
  refine WL.do rfl (Do.newP (cs := [.slice A0 l0.length c0]) (t := 22) H42 rfl rfl (fun _ => by kernel_rfl) ?_)
  intro g43 w44 H45
  refine As rfl rfl (WL.nil (Fin.then (Wp.seq (Wp.region (Kn (v := .func (.func 44) #[] #[.pointer (some ⟨g43, 0, none⟩)]) rfl rfl rfl (fun _ => by kernel_rfl) (As rfl rfl (WL.nil (Fin.then (Wp.ret (Fin.res (res1 rfl rfl) (Lf.nil (Ff.then (Wf.block ?_)))))))))))))
  have H46 := H45.pick [1, 2, 3, 0] (by decide) rfl
  have hz47 : List.length (List.reverse l0) = l0.length := List.length_reverse
  have H55 : Own w D w44 [row none 0 0 (List.flatMap EntryD.cells ([])) 52 7, blk g40 [.slice none 0 0] 22, blk g35 [.map (some g32), .slice none 0 0] 81, mapr g32 kS kI ([]), blk g43 [.slice A0 l0.length c0] 22] := H46.free (row_nil 52 7)
  have H56 : Own w D w44 [row none 0 0 (List.flatMap RangeD.cells ([])) 38 2, row none 0 0 (List.flatMap EntryD.cells ([])) 52 7, blk g40 [.slice none 0 0] 22, blk g35 [.map (some g32), .slice none 0 0] 81, mapr g32 kS kI ([]), blk g43 [.slice A0 l0.length c0] 22] := H55.free (row_nil 38 2)
  obtain ⟨C65, hC66⟩ : ∃ q : List EntryD → HP, q = fun pre49 => exS (fun (i : (Option Addr) × Nat × (List EntryD) × (Option Addr) × Nat × (List RangeD) × (List (List UInt8 × Int))) => i.2.2.2.2.2.1.length ≤ pre49.length ∧ i.2.2.1.length ≤ pre49.length ∧ buffer_Squeeze_L0 (List.reverse l0) ([]) ([]) ([]) = buffer_Squeeze_L0 (List.drop pre49.length (List.reverse l0)) i.2.2.1 i.2.2.2.2.2.1 i.2.2.2.2.2.2) (fun i => [blk g40 [.slice i.1 i.2.2.1.length i.2.1] 22, blk g35 [.map (some g32), .slice i.2.2.2.1 i.2.2.2.2.2.1.length i.2.2.2.2.1] 81, mapr g32 kS kI i.2.2.2.2.2.2, row i.1 i.2.2.1.length i.2.1 (List.flatMap EntryD.cells i.2.2.1) 52 7, row i.2.2.2.1 i.2.2.2.2.2.1.length i.2.2.2.2.1 (List.flatMap RangeD.cells i.2.2.2.2.2.1) 38 2]) := ⟨_, rfl⟩
  obtain ⟨J67, hJ68⟩ : ∃ q : Code → List EntryD → HP, q = fun _ _ _ => False := ⟨_, rfl⟩
  have H69 := H56.pick [2, 3, 4, 1, 0, 5] (by decide) rfl
  have H70 : Own w D w44 [C65 [], blk g43 [.slice A0 l0.length c0] 22] := by rw [hC66]; exact Own.exFold (none, 0, [], none, 0, [], []) (show List.length ([]) ≤ List.length [] ∧ List.length ([]) ≤ List.length [] ∧ buffer_Squeeze_L0 (List.reverse l0) ([]) ([]) ([]) = buffer_Squeeze_L0 (List.drop (List.length []) (List.reverse l0)) ([]) ([]) ([]) from ⟨by omega, by omega, rfl⟩) H69
  refine Wf.rangeFuncA (α := EntryD) (γ := Nat) (encs := fun x48 => [.agg (EntryD.cells x48).toArray]) (xs := List.reverse l0) (lb := [.pointer (some ⟨g43, 0, none⟩)]) C65 J67 (fun g50 x48 => [blk g50 (EntryD.cells x48) 52]) (fun g50 x48 => [(7, .pointer (some ⟨g50, 0, none⟩)), (17, .agg (EntryD.cells x48).toArray), (16, .func (.func 44) #[] #[.pointer (some ⟨g43, 0, none⟩)]), (15, .slice A0 l0.length c0), (6, .pointer (some ⟨g40, 0, none⟩)), (5, .pointer (some ⟨g35, 0, none⟩)), (14, .agg #[.map (some g32), .slice none 0 0]), (13, .map (some g32)), (11, .bool (decide (¬ (r26 = 0)))), (10, .int .i64 r26), (4, .int .i64 r26), (9, .int .i64 r26), (8, .slice A0 l0.length c0), (3, .int .i64 0), (2, .slice none 0 0), (0, .slice A0 l0.length c0)]) rfl Try.call44 (fun _ => rfl) rfl (behind_it g43 A0 c0 l0 w D hx0 (by omega)) H70 ?_ ?_ ?_ ?_ ?_
  intro l71 pre49 x48 R72 W73 K74 hp77 HB75 hk76
  show Wf _ _ _ _ _ [(17, .agg (EntryD.cells x48).toArray), (16, .func (.func 44) #[] #[.pointer (some ⟨g43, 0, none⟩)]), (15, .slice A0 l0.length c0), (6, .pointer (some ⟨g40, 0, none⟩)), (5, .pointer (some ⟨g35, 0, none⟩)), (14, .agg #[.map (some g32), .slice none 0 0]), (13, .map (some g32)), (11, .bool (decide (¬ (r26 = 0)))), (10, .int .i64 r26), (4, .int .i64 r26), (9, .int .i64 r26), (8, .slice A0 l0.length c0), (3, .int .i64 0), (2, .slice none 0 0), (0, .slice A0 l0.length c0)] _ _
  refine Wf.region ?_
  refine Lf.do rfl (Do.df rfl (Do.newP (cs := [.int .u64 0, .int .i64 0, .string ⟨List.toArray ([])⟩, .string ⟨List.toArray ([])⟩, .string ⟨List.toArray ([])⟩, .string ⟨List.toArray ([])⟩, .int .i64 0]) (t := 52) HB75 rfl rfl (fun _ => by kernel_rfl) ?_))
  intro g78 w79 H80
  refine Lf.do0 (Do.df rfl (Do.store (vs := (EntryD.cells x48)) (o := 0) H80 rfl rfl Try.sizeOf52 rfl rfl rfl rfl ?_))
  intro w81 H82
  refine Lf.nil ?_
  exact hk76 g78 _ H82
  intro l83 g50 pre49 x48 R84 W85 hp87 HB86
  show Wf _ _ _ _ _ [(7, .pointer (some ⟨g50, 0, none⟩)), (17, .agg (EntryD.cells x48).toArray), (16, .func (.func 44) #[] #[.pointer (some ⟨g43, 0, none⟩)]), (15, .slice A0 l0.length c0), (6, .pointer (some ⟨g40, 0, none⟩)), (5, .pointer (some ⟨g35, 0, none⟩)), (14, .agg #[.map (some g32), .slice none 0 0]), (13, .map (some g32)), (11, .bool (decide (¬ (r26 = 0)))), (10, .int .i64 r26), (4, .int .i64 r26), (9, .int .i64 r26), (8, .slice A0 l0.length c0), (3, .int .i64 0), (2, .slice none 0 0), (0, .slice A0 l0.length c0)] _ _
  rw [hC66] at HB86
  have H89 := HB86.pick [1, 0, 2] (by decide) rfl
  obtain ⟨⟨A57, c58, l59, A60, c61, l62, m63⟩, hf91, H90⟩ := Own.exOpen H89
  have H92 : Own w D W85 [blk g40 [.slice A57 l59.length c58] 22, blk g35 [.map (some g32), .slice A60 l62.length c61] 81, mapr g32 kS kI m63, row A57 l59.length c58 (List.flatMap EntryD.cells l59) 52 7, row A60 l62.length c61 (List.flatMap RangeD.cells l62) 38 2, blk g50 (EntryD.cells x48) 52, R84] := H90
  replace hf91 : l62.length ≤ pre49.length ∧ l59.length ≤ pre49.length ∧ buffer_Squeeze_L0 (List.reverse l0) ([]) ([]) ([]) = buffer_Squeeze_L0 (List.drop pre49.length (List.reverse l0)) l59 l62 m63 := hf91
  obtain ⟨hi93, hi94, hq88⟩ := hf91
  have hl95 := pre_le hp87
  have hd96 := drop_pre hp87
  obtain ⟨hl95a, hl95b⟩ := hl95
  refine Wf.block (Wf.seq (Wf.seq (Wf.region (Lf.val (v := .agg #[.map (some g32), .slice A60 l62.length c61]) rfl rfl (Yl.load rfl (Lds.agg (cs := [.map (some g32), .slice A60 l62.length c61]) Try.isAgg81 Try.sizeOf81 ((H92.cls (i := 1) rfl).lit (k := 0) (m := 2) rfl))) (Lf.val (v := .pointer (some ⟨g50, 1, none⟩)) rfl rfl (Yl.kern rfl rfl (fun _ => by kernel_rfl)) (Lf.val (v := .agg (OpD.cells x48.xOp).toArray) rfl rfl (Yl.load rfl (Lds.agg (cs := (OpD.cells x48.xOp)) Try.isAgg50 Try.sizeOf50 ((H92.cls (i := 5) rfl).lit (k := 1) (m := 6) rfl))) ?_))))))
  refine Lf.do rfl (Do.df rfl (Do.call Try.call41 rfl ?_ (fun _ _ k => k)))
  refine Calls.body (args := [.agg #[.map (some g32), .slice A60 l62.length c61], .agg (OpD.cells x48.xOp).toArray]) Try.func41 rfl rfl rfl ?_
  show Wp _ _ _ [(0, .agg #[.map (some g32), .slice A60 l62.length c61]), (1, .agg (OpD.cells x48.xOp).toArray)] _ _
  refine Wp.seq (Wp.region ?_)
  refine WL.do rfl (Do.newP (cs := [.map (some g32), .slice A60 l62.length c61]) (t := 81) H92 rfl rfl (fun _ => by kernel_rfl) ?_)
  intro g97 w98 H99
  refine WL.do rfl (Do.newP (cs := (OpD.cells x48.xOp)) (t := 50) H99 rfl rfl (fun _ => by kernel_rfl) ?_)
  intro g100 w101 H102
  refine As rfl rfl (WL.nil (Fin.then (Wp.seq (Wp.seq (Wp.region (Kn (v := .pointer (some ⟨g100, 0, none⟩)) rfl rfl rfl (fun _ => by kernel_rfl) (WL.val (v := .int .i64 x48.xOp.xKind) rfl (Yl.load rfl (Lds.one Try.isAgg3 (Cls.of (H102.cls (i := 0) rfl) rfl))) (Kn (v := .bool (decide (x48.xOp.xKind = 5))) rfl rfl rfl (fun _ => by kernel_rfl) (WL.nil (Fin.then ?_))))))))))
  by_cases h103 : x48.xOp.xKind = 5
  refine Wp.cond1 rfl (decide_eq_true h103) (Wp.seq (Wp.region (Kn (v := .pointer (some ⟨g97, 1, none⟩)) rfl rfl rfl (fun _ => by kernel_rfl) (WL.val (v := .slice A60 l62.length c61) rfl (Yl.load rfl (Lds.one Try.isAgg79 (Cls.of (H102.cls (i := 1) rfl) rfl))) (Kn (v := .func (.func 54) #[] #[.pointer (some ⟨g100, 0, none⟩)]) rfl rfl rfl (fun _ => by kernel_rfl) ?_)))))
  obtain ⟨r109, hr110⟩ : ∃ q, slices_ContainsFunc_api_Range_api_Range l62 x48.xOp = q := ⟨_, rfl⟩
  obtain ⟨D104, HP105, ro106, bk107, rr108⟩ := Own.enter1 H102
  refine WL.do rfl (Do.call Try.call53 rfl (slices_ContainsFunc_api_Range_api_Range_ok _ _ A60 l62.length c61 l62 g100 x48.xOp r109 HP105 (rr108 _ 5 _ rfl row_rds) rfl (by omega) hr110) ?_)
  rintro _ w111 ⟨rfl, HQ112⟩
  have H113 := bk107 _ _ HQ112
  refine As rfl rfl (WL.nil (Fin.then (Wp.ret (Fin.thenR (Fin.res (res1 rfl rfl) (Lf.nil (Ff.then ?_)))))))
  rcases Bool.eq_false_or_eq_true (r109) with h114 | h114
  refine Wf.cond1 rfl h114 (Wf.exit (Ff.thenX (Ff.blockX ?_)))
  have H115 := H113.pick [2, 3, 4, 5, 6, 8] (by decide) rfl
  exact fun _ _ _ => (show Own w D w111 [C65 (pre49 ++ [x48]), R84] from by rw [hC66]; exact Own.exFold (A57, c58, l59, A60, c61, l62, m63) (show l62.length ≤ List.length (pre49 ++ [x48]) ∧ l59.length ≤ List.length (pre49 ++ [x48]) ∧ buffer_Squeeze_L0 (List.reverse l0) ([]) ([]) ([]) = buffer_Squeeze_L0 (List.drop (List.length (pre49 ++ [x48])) (List.reverse l0)) l59 l62 m63 from ⟨by omega, by omega, Eq.trans (hq88) (Eq.trans (congrArg (fun q => buffer_Squeeze_L0 q l59 l62 m63) hd96) (Eq.trans (if_pos h103) (Eq.trans (bnd_of hr110) (if_pos h114))))⟩) H115)
  refine Wf.cond0 rfl h114 (Wf.skip (Ff.then (Wf.seq ?_)))
  have H116 := H113.pick [2, 3, 4, 5, 6, 7, 8] (by decide) rfl
  refine Wf.region (Lf.val (v := .pointer (some ⟨g50, 1, none⟩)) rfl rfl (Yl.kern rfl rfl (fun _ => by kernel_rfl)) (Lf.val (v := .agg (OpD.cells x48.xOp).toArray) rfl rfl (Yl.load rfl (Lds.agg (cs := (OpD.cells x48.xOp)) Try.isAgg50 Try.sizeOf50 ((H116.cls (i := 5) rfl).lit (k := 1) (m := 6) rfl))) ?_))
  refine Lf.do rfl (Do.df rfl (Do.call Try.call42 rfl ?_ (fun _ _ k => k)))
  refine Calls.body (args := [.pointer (some ⟨g35, 0, none⟩), .agg (OpD.cells x48.xOp).toArray]) Try.func42 rfl rfl rfl ?_
  show Wp _ _ _ [(0, .pointer (some ⟨g35, 0, none⟩)), (1, .agg (OpD.cells x48.xOp).toArray)] _ _
  refine Wp.seq (Wp.region ?_)
  refine WL.do rfl (Do.newP (cs := (OpD.cells x48.xOp)) (t := 50) H116 rfl rfl (fun _ => by kernel_rfl) ?_)
  intro g117 w118 H119
  refine WL.nil (Fin.then (Wp.seq (Wp.seq (Wp.region (Kn (v := .pointer (some ⟨g117, 0, none⟩)) rfl rfl rfl (fun _ => by kernel_rfl) (WL.val (v := .int .i64 x48.xOp.xKind) rfl (Yl.load rfl (Lds.one Try.isAgg3 (Cls.of (H119.cls (i := 0) rfl) rfl))) (Kn (v := .bool (decide (x48.xOp.xKind = 5))) rfl rfl rfl (fun _ => by kernel_rfl) (WL.nil (Fin.then (Wp.cond1 rfl (decide_eq_true h103) (Wp.seq ?_)))))))))))
  have H121 := H119.drew
  refine Wp.drawnX [8, 11] (fun W => ∃ L', Own w D W ([blk g117 (OpD.cells x48.xOp) 50, blk g40 [.slice A57 l59.length c58] 22, blk g35 [.map (some g32), .slice A60 l62.length c61] 81, mapr g32 kS kI m63, row A57 l59.length c58 (List.flatMap EntryD.cells l59) 52 7, row A60 l62.length c61 (List.flatMap RangeD.cells l62) 38 2, blk g50 (EntryD.cells x48) 52, R84] ++ L')) (by kernel_rfl) (by kernel_rfl) (NoP.then (NoP.then NoP.base)) ⟨_, H121⟩ ?_
  revert H121
  generalize World.drew w118 = w120
  intro H121
  refine GX.takeA (v := .pointer (some ⟨g35, 0, none⟩)) 0 rfl (by kernel_rfl) (fun _ => Yl.move rfl) (GX.take (v := .pointer (some ⟨g35, 0, none⟩)) (rs := [[4, 3, 2], []]) 1 rfl (by kernel_rfl) (fun _ _ => Yl.move rfl) (GX.take (v := .pointer (some ⟨g35, 0, none⟩)) (rs := [[4, 3], []]) 2 rfl (by kernel_rfl) (fun _ _ => Yl.kern rfl rfl (fun _ => by kernel_rfl)) (GX.take (v := .pointer (some ⟨g35, 1, none⟩)) (rs := [[4], []]) 3 rfl (by kernel_rfl) (fun _ _ => Yl.kern rfl rfl (fun _ => by kernel_rfl)) (GX.take (v := .slice A60 l62.length c61) (rs := [[], []]) 4 rfl (by kernel_rfl) (fun _ ⟨_, H9⟩ => Yl.load rfl (Lds.one Try.isAgg79 (Cls.of (H9.cls (i := 2) rfl) rfl))) (GX.take (v := .agg (OpD.cells x48.xOp).toArray) (rs := [[6], []]) 5 rfl (by kernel_rfl) (fun _ ⟨_, H9⟩ => Yl.load rfl (Lds.agg (cs := (OpD.cells x48.xOp)) Try.isAgg50 Try.sizeOf50 ((H9.cls (i := 0) rfl).lit (k := 0) (m := 6) rfl))) ?_)))))
  obtain ⟨r127, hr128⟩ : ∃ q, buffer_rangeOf x48.xOp = q := ⟨_, rfl⟩
  obtain ⟨D122, HP123, ro124, bk125, rr126⟩ := Own.enter0 H121
  refine GX.do 6 rfl (by kernel_rfl) (Do.call Try.call35 rfl (buffer_rangeOf_ok _ _ x48.xOp r127 HP123 hr128) ?_)
  rintro _ w129 ⟨rfl, HQ130⟩
  have H131 := bk125 _ _ HQ130
  refine ⟨.inr ⟨_, H131⟩, ?_⟩
  refine GX.do 7 rfl (by kernel_rfl) (Do.newRow (cs := (RangeD.cells r127)) (t := 38) (sz := 2) (m := 1) H131 rfl rfl (fun _ => by kernel_rfl) rfl (by decide) ?_)
  intro A132 w133 H134
  replace H134 : Own w D w133 [row A132 1 1 (List.flatMap RangeD.cells ([r127])) 38 2, blk g117 (OpD.cells x48.xOp) 50, blk g40 [.slice A57 l59.length c58] 22, blk g35 [.map (some g32), .slice A60 l62.length c61] 81, mapr g32 kS kI m63, row A57 l59.length c58 (List.flatMap EntryD.cells l59) 52 7, row A60 l62.length c61 (List.flatMap RangeD.cells l62) 38 2, blk g50 (EntryD.cells x48) 52, R84] := H134
  have H135 := H134.pick [1, 2, 3, 4, 5, 6, 7, 8, 0] (by decide) rfl
  refine ⟨.inr ⟨_, H135⟩, ?_⟩
  have H136 := H135.pick [5, 0, 1, 2, 3, 4, 6, 7, 8] (by decide) rfl
  refine GX.do 8 rfl (by kernel_rfl) (Do.appendW (k := l62.length) (m := 1) (El79) H136 rfl rfl (src_of Try.underlying79 (H136.rds (i := 8) rfl) (flat_one RangeD.one ([r127]))) rfl (by omega) (s := List.length (l62 ++ [r127])) (by first | omega | (simp only [List.length_append, List.length_cons, List.length_nil] <;> omega)) (List.flatMap_append).symm ?_)
  intro A137 c138 w139 H140
  have hl141 : List.length (l62 ++ [r127]) = l62.length + 1 := by simp only [List.length_append, List.length_cons, List.length_nil]
  refine ⟨.inl (by kernel_rfl), ?_⟩
  refine GX.takeA (v := .pointer (some ⟨g35, 0, none⟩)) 9 rfl (by kernel_rfl) (fun _ => Yl.kern rfl rfl (fun _ => by kernel_rfl)) (GX.takeA (v := .pointer (some ⟨g35, 1, none⟩)) 10 rfl (by kernel_rfl) (fun _ => Yl.kern rfl rfl (fun _ => by kernel_rfl)) ?_)
  have H142 := H140.pick [3, 0, 1, 2, 4, 5, 6, 7, 8] (by decide) rfl
  refine GX.do0 11 rfl (by kernel_rfl) (Do.store (vs := [.slice A137 (List.length (l62 ++ [r127])) c138]) (o := 1) H142 rfl rfl Try.sizeOf79 rfl rfl rfl rfl ?_)
  intro w143 H144
  refine ⟨.inl (by kernel_rfl), ?_⟩
  refine GX.done (by kernel_rfl) (Fin.then (Wp.ret (Fin.thenR (Fin.res (res0 rfl) (Lf.nil (Ff.then ?_))))))
  have H145 := H144.pick [0, 1, 3, 4, 5, 6, 7] (by decide) rfl
  refine Wf.region (Lf.val (v := .slice A57 l59.length c58) rfl rfl (Yl.load rfl (Lds.one Try.isAgg22 (Cls.of (H145.cls (i := 2) rfl) rfl))) (Lf.val (v := .agg (EntryD.cells x48).toArray) rfl rfl (Yl.load rfl (Lds.agg (cs := (EntryD.cells x48)) Try.isAgg52 Try.sizeOf52 ((H145.cls (i := 5) rfl).lit (k := 0) (m := 7) rfl))) ?_))
  refine Lf.do rfl (Do.df rfl (Do.newRow (cs := (EntryD.cells x48)) (t := 52) (sz := 7) (m := 1) H145 rfl rfl (fun _ => by kernel_rfl) rfl (by decide) ?_))
  intro A146 w147 H148
  replace H148 : Own w D w147 [row A146 1 1 (List.flatMap EntryD.cells ([x48])) 52 7, blk g35 [.map (some g32), .slice A137 (List.length (l62 ++ [r127])) c138] 81, row A137 (List.length (l62 ++ [r127])) c138 (List.flatMap RangeD.cells (l62 ++ [r127])) 38 2, blk g40 [.slice A57 l59.length c58] 22, mapr g32 kS kI m63, row A57 l59.length c58 (List.flatMap EntryD.cells l59) 52 7, blk g50 (EntryD.cells x48) 52, R84] := H148
  have H149 := H148.pick [5, 0, 1, 2, 3, 4, 6, 7] (by decide) rfl
  refine Lf.do rfl (Do.df rfl (Do.appendW (k := l59.length) (m := 1) (El22) H149 rfl rfl (src_of Try.underlying22 (H149.rds (i := 1) rfl) (flat_one EntryD.one ([x48]))) rfl (by omega) (s := List.length (l59 ++ [x48])) (by first | omega | (simp only [List.length_append, List.length_cons, List.length_nil] <;> omega)) (List.flatMap_append).symm ?_))
  intro A150 c151 w152 H153
  have hl154 : List.length (l59 ++ [x48]) = l59.length + 1 := by simp only [List.length_append, List.length_cons, List.length_nil]
  have H155 := H153.pick [4, 0, 1, 2, 3, 5, 6, 7] (by decide) rfl
  refine Lf.do0 (Do.df rfl (Do.store (vs := [.slice A150 (List.length (l59 ++ [x48])) c151]) (o := 0) H155 rfl rfl Try.sizeOf22 rfl rfl rfl rfl ?_))
  intro w156 H157
  refine Lf.nil (Ff.blockN ?_)
  have H158 := H157.pick [0, 3, 5, 1, 4, 7] (by decide) rfl
  exact fun _ _ _ => (show Own w D w156 [C65 (pre49 ++ [x48]), R84] from by rw [hC66]; exact Own.exFold (A150, c151, (l59 ++ [x48]), A137, c138, (l62 ++ [r127]), m63) (show List.length (l62 ++ [r127]) ≤ List.length (pre49 ++ [x48]) ∧ List.length (l59 ++ [x48]) ≤ List.length (pre49 ++ [x48]) ∧ buffer_Squeeze_L0 (List.reverse l0) ([]) ([]) ([]) = buffer_Squeeze_L0 (List.drop (List.length (pre49 ++ [x48])) (List.reverse l0)) (l59 ++ [x48]) (l62 ++ [r127]) m63 from ⟨by omega, by omega, Eq.trans (hq88) (Eq.trans (congrArg (fun q => buffer_Squeeze_L0 q l59 l62 m63) hd96) (Eq.trans (if_pos h103) (Eq.trans (bnd_of hr110) (Eq.trans (ifF h114) (bnd_of hr128)))))⟩) H158)
  refine Wp.cond0 rfl (decide_eq_false h103) (Wp.skip (Fin.then (Wp.seq (Wp.region (Kn (v := .pointer (some ⟨g97, 0, none⟩)) rfl rfl rfl (fun _ => by kernel_rfl) (WL.val (v := .map (some g32)) rfl (Yl.load rfl (Lds.one Try.isAgg78 (Cls.of (H102.cls (i := 1) rfl) rfl))) (Kn (v := .pointer (some ⟨g100, 1, none⟩)) rfl rfl rfl (fun _ => by kernel_rfl) (WL.val (v := .string ⟨List.toArray x48.xOp.xKey⟩) rfl (Yl.load rfl (Lds.one Try.isAgg9 (Cls.of (H102.cls (i := 0) rfl) rfl))) ?_))))))))
  obtain ⟨o159, ho160⟩ : ∃ q, mget m63 x48.xOp.xKey = q := ⟨_, rfl⟩
  refine WL.val (v := .tuple #[.int .i64 (Option.getD o159 0), .bool (Option.isSome o159)]) rfl (Yl.lookupOk (k := x48.xOp.xKey) (d0 := 0) (i := 4) H102 rfl (eK_str Try.underlying9) Try.underlying78 (fun _ => by kernel_rfl) rfl rfl ho160) (Mv rfl rfl (Kn (v := .int .i64 (Option.getD o159 0)) rfl rfl rfl (fun _ => by kernel_rfl) (Kn (v := .bool (Option.isSome o159)) rfl rfl rfl (fun _ => by kernel_rfl) (As rfl rfl (As rfl rfl (WL.nil (Fin.then (Wp.seq (Wp.region (Mv rfl rfl (Mv rfl rfl ?_)))))))))))
  rcases Bool.eq_false_or_eq_true (Option.isSome o159) with h161 | h161
  refine Sk rfl rfl h161 rfl (Sk rfl rfl h161 rfl (Sk rfl rfl h161 rfl (Sk rfl rfl h161 rfl (WL.val (v := .bool true) rfl (Yl.pickT rfl h161 rfl) (As rfl rfl (WL.nil (Fin.then (Wp.ret (Fin.res (res1 rfl rfl) (Lf.nil (Ff.then (Wf.cond1 rfl rfl (Wf.exit (Ff.thenX (Ff.blockX ?_)))))))))))))))
  have H162 := H102.pick [2, 3, 4, 5, 6, 8] (by decide) rfl
  exact fun _ _ _ => (show Own w D w101 [C65 (pre49 ++ [x48]), R84] from by rw [hC66]; exact Own.exFold (A57, c58, l59, A60, c61, l62, m63) (show l62.length ≤ List.length (pre49 ++ [x48]) ∧ l59.length ≤ List.length (pre49 ++ [x48]) ∧ buffer_Squeeze_L0 (List.reverse l0) ([]) ([]) ([]) = buffer_Squeeze_L0 (List.drop (List.length (pre49 ++ [x48])) (List.reverse l0)) l59 l62 m63 from ⟨by omega, by omega, Eq.trans (hq88) (Eq.trans (congrArg (fun q => buffer_Squeeze_L0 q l59 l62 m63) hd96) (Eq.trans (if_neg h103) (Eq.trans (bnd_of ho160) (if_pos h161))))⟩) H162)
  refine WL.valG (v := .pointer (some ⟨g97, 1, none⟩)) rfl rfl h161 rfl (Yl.kern rfl rfl (fun _ => by kernel_rfl)) (WL.valG (v := .slice A60 l62.length c61) rfl rfl h161 rfl (Yl.load rfl (Lds.one Try.isAgg79 (Cls.of (H102.cls (i := 1) rfl) rfl))) (WL.valG (v := .func (.func 56) #[] #[.pointer (some ⟨g100, 0, none⟩)]) rfl rfl h161 rfl (Yl.kern rfl rfl (fun _ => by kernel_rfl)) ?_))
  obtain ⟨r168, hr169⟩ : ∃ q, slices_ContainsFunc_api_Range_api_Rangex l62 x48.xOp = q := ⟨_, rfl⟩
  obtain ⟨D163, HP164, ro165, bk166, rr167⟩ := Own.enter1 H102
  refine WL.doG rfl rfl h161 rfl (Do.call Try.call53 rfl (slices_ContainsFunc_api_Range_api_Rangex_ok _ _ A60 l62.length c61 l62 g100 x48.xOp r168 HP164 (rr167 _ 5 _ rfl row_rds) rfl (by omega) hr169) ?_)
  rintro _ w170 ⟨rfl, HQ171⟩
  have H172 := bk166 _ _ HQ171
  refine WL.val (v := .bool r168) rfl (Yl.pickF rfl h161 rfl) (As rfl rfl (WL.nil (Fin.then (Wp.ret (Fin.res (res1 rfl rfl) (Lf.nil (Ff.then ?_)))))))
  rcases Bool.eq_false_or_eq_true (r168) with h173 | h173
  refine Wf.cond1 rfl h173 (Wf.exit (Ff.thenX (Ff.blockX ?_)))
  have H174 := H172.pick [2, 3, 4, 5, 6, 8] (by decide) rfl
  exact fun _ _ _ => (show Own w D w170 [C65 (pre49 ++ [x48]), R84] from by rw [hC66]; exact Own.exFold (A57, c58, l59, A60, c61, l62, m63) (show l62.length ≤ List.length (pre49 ++ [x48]) ∧ l59.length ≤ List.length (pre49 ++ [x48]) ∧ buffer_Squeeze_L0 (List.reverse l0) ([]) ([]) ([]) = buffer_Squeeze_L0 (List.drop (List.length (pre49 ++ [x48])) (List.reverse l0)) l59 l62 m63 from ⟨by omega, by omega, Eq.trans (hq88) (Eq.trans (congrArg (fun q => buffer_Squeeze_L0 q l59 l62 m63) hd96) (Eq.trans (if_neg h103) (Eq.trans (bnd_of ho160) (Eq.trans (ifF h161) (Eq.trans (bnd_of hr169) (if_pos h173))))))⟩) H174)
  refine Wf.cond0 rfl h173 (Wf.skip (Ff.then (Wf.seq ?_)))
  have H175 := H172.pick [2, 3, 4, 5, 6, 7, 8] (by decide) rfl
  refine Wf.region (Lf.val (v := .pointer (some ⟨g50, 1, none⟩)) rfl rfl (Yl.kern rfl rfl (fun _ => by kernel_rfl)) (Lf.val (v := .agg (OpD.cells x48.xOp).toArray) rfl rfl (Yl.load rfl (Lds.agg (cs := (OpD.cells x48.xOp)) Try.isAgg50 Try.sizeOf50 ((H175.cls (i := 5) rfl).lit (k := 1) (m := 6) rfl))) ?_))
  refine Lf.do rfl (Do.df rfl (Do.call Try.call42 rfl ?_ (fun _ _ k => k)))
  refine Calls.body (args := [.pointer (some ⟨g35, 0, none⟩), .agg (OpD.cells x48.xOp).toArray]) Try.func42 rfl rfl rfl ?_
  show Wp _ _ _ [(0, .pointer (some ⟨g35, 0, none⟩)), (1, .agg (OpD.cells x48.xOp).toArray)] _ _
  refine Wp.seq (Wp.region ?_)
  refine WL.do rfl (Do.newP (cs := (OpD.cells x48.xOp)) (t := 50) H175 rfl rfl (fun _ => by kernel_rfl) ?_)
  intro g176 w177 H178
  refine WL.nil (Fin.then (Wp.seq (Wp.seq (Wp.region (Kn (v := .pointer (some ⟨g176, 0, none⟩)) rfl rfl rfl (fun _ => by kernel_rfl) (WL.val (v := .int .i64 x48.xOp.xKind) rfl (Yl.load rfl (Lds.one Try.isAgg3 (Cls.of (H178.cls (i := 0) rfl) rfl))) (Kn (v := .bool (decide (x48.xOp.xKind = 5))) rfl rfl rfl (fun _ => by kernel_rfl) (WL.nil (Fin.then (Wp.cond0 rfl (decide_eq_false h103) (Wp.skip (Fin.then ?_))))))))))))
  have H179 := H178.pick [0, 1, 2, 4, 5, 6, 7, 3] (by decide) rfl
  have H181 := H179.drew
  refine Wp.drawnX [] (fun W => ∃ L', Own w D W ([blk g176 (OpD.cells x48.xOp) 50, blk g40 [.slice A57 l59.length c58] 22, blk g35 [.map (some g32), .slice A60 l62.length c61] 81, row A57 l59.length c58 (List.flatMap EntryD.cells l59) 52 7, row A60 l62.length c61 (List.flatMap RangeD.cells l62) 38 2, blk g50 (EntryD.cells x48) 52, R84] ++ L')) (by kernel_rfl) (by kernel_rfl) NoP.base ⟨_, H181⟩ ?_
  revert H181
  generalize World.drew w177 = w180
  intro H181
  refine GX.take (v := .pointer (some ⟨g35, 0, none⟩)) (rs := []) 0 rfl (by kernel_rfl) (fun _ _ => Yl.move rfl) (GX.take (v := .pointer (some ⟨g35, 0, none⟩)) (rs := []) 1 rfl (by kernel_rfl) (fun _ _ => Yl.kern rfl rfl (fun _ => by kernel_rfl)) (GX.take (v := .pointer (some ⟨g35, 0, none⟩)) (rs := []) 2 rfl (by kernel_rfl) (fun _ _ => Yl.kern rfl rfl (fun _ => by kernel_rfl)) (GX.take (v := .map (some g32)) (rs := []) 3 rfl (by kernel_rfl) (fun _ ⟨_, H9⟩ => Yl.load rfl (Lds.one Try.isAgg78 (Cls.of (H9.cls (i := 2) rfl) rfl))) (GX.take (v := .pointer (some ⟨g176, 1, none⟩)) (rs := []) 4 rfl (by kernel_rfl) (fun _ _ => Yl.kern rfl rfl (fun _ => by kernel_rfl)) (GX.take (v := .string ⟨List.toArray x48.xOp.xKey⟩) (rs := []) 5 rfl (by kernel_rfl) (fun _ ⟨_, H9⟩ => Yl.load rfl (Lds.one Try.isAgg9 (Cls.of (H9.cls (i := 0) rfl) rfl))) ?_)))))
  have H182 := H181.pick [7, 0, 1, 2, 3, 4, 5, 6] (by decide) rfl
  refine GX.do0 6 rfl (by kernel_rfl) (Do.mapUpdate (k := x48.xOp.xKey) (v := 1) H182 (eK_str Try.underlying9) Try.underlying78 rfl rfl rfl ?_)
  intro w183 H184
  have H185 := H184.pick [1, 2, 3, 4, 5, 6, 7, 0] (by decide) rfl
  refine ⟨.inr ⟨_, H185⟩, ?_⟩
  refine GX.done (by kernel_rfl) (Fin.res0 (res0 rfl) (Lf.nil (Ff.then ?_)))
  have H186 := H185.pick [1, 2, 3, 4, 5, 6, 7] (by decide) rfl
  refine Wf.region (Lf.val (v := .slice A57 l59.length c58) rfl rfl (Yl.load rfl (Lds.one Try.isAgg22 (Cls.of (H186.cls (i := 0) rfl) rfl))) (Lf.val (v := .agg (EntryD.cells x48).toArray) rfl rfl (Yl.load rfl (Lds.agg (cs := (EntryD.cells x48)) Try.isAgg52 Try.sizeOf52 ((H186.cls (i := 4) rfl).lit (k := 0) (m := 7) rfl))) ?_))
  refine Lf.do rfl (Do.df rfl (Do.newRow (cs := (EntryD.cells x48)) (t := 52) (sz := 7) (m := 1) H186 rfl rfl (fun _ => by kernel_rfl) rfl (by decide) ?_))
  intro A187 w188 H189
  replace H189 : Own w D w188 [row A187 1 1 (List.flatMap EntryD.cells ([x48])) 52 7, blk g40 [.slice A57 l59.length c58] 22, blk g35 [.map (some g32), .slice A60 l62.length c61] 81, row A57 l59.length c58 (List.flatMap EntryD.cells l59) 52 7, row A60 l62.length c61 (List.flatMap RangeD.cells l62) 38 2, blk g50 (EntryD.cells x48) 52, R84, mapr g32 kS kI (mput m63 x48.xOp.xKey 1)] := H189
  have H190 := H189.pick [3, 0, 1, 2, 4, 5, 6, 7] (by decide) rfl
  refine Lf.do rfl (Do.df rfl (Do.appendW (k := l59.length) (m := 1) (El22) H190 rfl rfl (src_of Try.underlying22 (H190.rds (i := 1) rfl) (flat_one EntryD.one ([x48]))) rfl (by omega) (s := List.length (l59 ++ [x48])) (by first | omega | (simp only [List.length_append, List.length_cons, List.length_nil] <;> omega)) (List.flatMap_append).symm ?_))
  intro A191 c192 w193 H194
  have hl195 : List.length (l59 ++ [x48]) = l59.length + 1 := by simp only [List.length_append, List.length_cons, List.length_nil]
  have H196 := H194.pick [2, 0, 1, 3, 4, 5, 6, 7] (by decide) rfl
  refine Lf.do0 (Do.df rfl (Do.store (vs := [.slice A191 (List.length (l59 ++ [x48])) c192]) (o := 0) H196 rfl rfl Try.sizeOf22 rfl rfl rfl rfl ?_))
  intro w197 H198
  refine Lf.nil (Ff.blockN ?_)
  have H199 := H198.pick [0, 3, 7, 1, 4, 6] (by decide) rfl
  exact fun _ _ _ => (show Own w D w197 [C65 (pre49 ++ [x48]), R84] from by rw [hC66]; exact Own.exFold (A191, c192, (l59 ++ [x48]), A60, c61, l62, (mput m63 x48.xOp.xKey 1)) (show l62.length ≤ List.length (pre49 ++ [x48]) ∧ List.length (l59 ++ [x48]) ≤ List.length (pre49 ++ [x48]) ∧ buffer_Squeeze_L0 (List.reverse l0) ([]) ([]) ([]) = buffer_Squeeze_L0 (List.drop (List.length (pre49 ++ [x48])) (List.reverse l0)) (l59 ++ [x48]) l62 (mput m63 x48.xOp.xKey 1) from ⟨by omega, by omega, Eq.trans (hq88) (Eq.trans (congrArg (fun q => buffer_Squeeze_L0 q l59 l62 m63) hd96) (Eq.trans (if_neg h103) (Eq.trans (bnd_of ho160) (Eq.trans (ifF h161) (Eq.trans (bnd_of hr169) (ifF h173))))))⟩) H199)
  intro r200 w201 H202
  rw [hC66] at H202
  have H204 := H202.pick [1, 0] (by decide) rfl
  obtain ⟨⟨A57, c58, l59, A60, c61, l62, m63⟩, hf206, H205⟩ := Own.exOpen H204
  have H207 : Own w D w201 [blk g40 [.slice A57 l59.length c58] 22, blk g35 [.map (some g32), .slice A60 l62.length c61] 81, mapr g32 kS kI m63, row A57 l59.length c58 (List.flatMap EntryD.cells l59) 52 7, row A60 l62.length c61 (List.flatMap RangeD.cells l62) 38 2, obj r200 (.deferred (some []))] := H205
  replace hf206 : l62.length ≤ List.length (List.reverse l0) ∧ l59.length ≤ List.length (List.reverse l0) ∧ buffer_Squeeze_L0 (List.reverse l0) ([]) ([]) ([]) = buffer_Squeeze_L0 (List.drop (List.length (List.reverse l0)) (List.reverse l0)) l59 l62 m63 := hf206
  obtain ⟨hi208, hi209, hq203⟩ := hf206
  have hL210 : buffer_Squeeze_L0 (List.reverse l0) ([]) ([]) ([]) = l59 := Eq.trans (hq203) (Eq.trans (congrArg (fun q => buffer_Squeeze_L0 q l59 l62 m63) (drop_all (List.reverse l0))) rfl)
  refine Ff.blockN (Ff.then (Wf.seq ?_))
  have H211 := H207.pick [0, 3, 5] (by decide) rfl
  refine Wf.region (Lf.val (v := .slice A57 l59.length c58) rfl rfl (Yl.load rfl (Lds.one Try.isAgg22 (Cls.of (H211.cls (i := 0) rfl) rfl))) ?_)
  refine Lf.do rfl (Do.df rfl (Do.call Try.call43 rfl ?_ (fun _ _ k => k)))
  refine Calls.body (args := [.slice A57 l59.length c58]) Try.func43 rfl rfl rfl ?_
  show Wp _ _ _ [(0, .slice A57 l59.length c58)] _ _
  refine Wp.seq (Wp.region (Mv rfl rfl (Kn (v := .int .i64 ((l59.length : Nat) : Int)) rfl rfl rfl (fun _ => by kernel_rfl) (WL.val (v := .int .i64 (((l59.length : Nat) : Int) - 1)) rfl (Yl.int (e := IntKind.i64.wrap (((l59.length : Nat) : Int) - 1)) (Yl.kern rfl rfl (fun _ => by kernel_rfl)) (by rw [IntWalk.i64_in _ (by omega)])) (As rfl rfl (As rfl rfl (WL.nil (Fin.then (Wp.block ?_)))))))))
  have H217 := H211.pick [0, 1, 2] (by decide) rfl
  refine Wp.loop (ι := Nat × Int × (List EntryD) × Nat) (fun i => [(2, .int .i64 ((i.1 : Nat) : Int)), (3, .int .i64 i.2.1), (0, .slice A57 l59.length c58)]) (fun (i : Nat × Int × (List EntryD) × Nat) w' => Own w D w' [blk g40 [.slice A57 l59.length c58] 22, row A57 l59.length c58 (List.flatMap EntryD.cells i.2.2.1) 52 7, obj r200 (.deferred (some []))] ∧ (i.2.2.1.length = l59.length ∧ ((i.1 : Nat) : Int) + i.2.1 = (((l59.length : Nat) : Int) - 1) ∧ -1 ≤ i.2.1 ∧ i.2.1 ≤ 9223372036854775806 ∧ Int.toNat (i.2.1 + 1) < i.2.2.2 ∧ buffer_Squeeze_L1 ((Int.toNat ((((l59.length : Nat) : Int) - 1) + 1)) + 1) 0 (((l59.length : Nat) : Int) - 1) l59 = buffer_Squeeze_L1 i.2.2.2 i.1 i.2.1 i.2.2.1)) (fun i => i.2.2.2) (0, ((l59.length : Nat) : Int) - 1, l59, (Int.toNat ((((l59.length : Nat) : Int) - 1) + 1)) + 1) ⟨rfl, rfl, rfl, trivial⟩ ⟨H217, (show l59.length = l59.length ∧ ((0 : Nat) : Int) + (((l59.length : Nat) : Int) - 1) = (((l59.length : Nat) : Int) - 1) ∧ -1 ≤ (((l59.length : Nat) : Int) - 1) ∧ (((l59.length : Nat) : Int) - 1) ≤ 9223372036854775806 ∧ Int.toNat ((((l59.length : Nat) : Int) - 1) + 1) < ((Int.toNat ((((l59.length : Nat) : Int) - 1) + 1)) + 1) ∧ buffer_Squeeze_L1 ((Int.toNat ((((l59.length : Nat) : Int) - 1) + 1)) + 1) 0 (((l59.length : Nat) : Int) - 1) l59 = buffer_Squeeze_L1 ((Int.toNat ((((l59.length : Nat) : Int) - 1) + 1)) + 1) 0 (((l59.length : Nat) : Int) - 1) l59 from ⟨by first | omega | (simp only [List.length_set]; omega) | (simp only [List.length_replicate]), by omega, by omega, by omega, by omega, rfl⟩)⟩ ?_
  rintro ⟨k212, z213, l214, f216⟩ w218 ⟨H219, hf220⟩
  show Wp _ _ _ [(2, .int .i64 ((k212 : Nat) : Int)), (3, .int .i64 z213), (0, .slice A57 l59.length c58)] _ _
  replace hf220 : l214.length = l59.length ∧ ((k212 : Nat) : Int) + z213 = (((l59.length : Nat) : Int) - 1) ∧ -1 ≤ z213 ∧ z213 ≤ 9223372036854775806 ∧ Int.toNat (z213 + 1) < f216 ∧ buffer_Squeeze_L1 ((Int.toNat ((((l59.length : Nat) : Int) - 1) + 1)) + 1) 0 (((l59.length : Nat) : Int) - 1) l59 = buffer_Squeeze_L1 f216 k212 z213 l214 := hf220
  obtain ⟨hi222, hi223, hi224, hi225, hi226, hq221⟩ := hf220
  obtain ⟨f227, hf228⟩ : ∃ q, f216 = q + 1 := ⟨f216 - 1, by omega⟩
  subst hf228
  refine Wp.seq (Wp.seq (Wp.region (Mv rfl rfl (Mv rfl rfl (Kn (v := .bool (decide (((k212 : Nat) : Int) < z213))) rfl rfl rfl (fun _ => by kernel_rfl) (WL.nil (Fin.then ?_)))))))
  by_cases h229 : ((k212 : Nat) : Int) < z213
  refine Wp.cond1 rfl (decide_eq_true h229) (Wp.skip (Fin.then (Wp.seq (Wp.block ?_))))
  have H231 := H219.drew
  refine Wp.drawnX [13, 15] (fun W => ∃ L', Own w D W ([blk g40 [.slice A57 l59.length c58] 22, row A57 l59.length c58 (List.flatMap EntryD.cells l214) 52 7, obj r200 (.deferred (some []))] ++ L')) (by kernel_rfl) (by kernel_rfl) (NoP.block (NoP.then (NoP.then (NoP.block NoP.base)))) ⟨_, H231⟩ ?_
  revert H231
  generalize World.drew w218 = w230
  intro H231
  refine GX.take (v := .slice A57 l59.length c58) (rs := [[], []]) 0 rfl (by kernel_rfl) (fun _ _ => Yl.move rfl) (GX.take (v := .int .i64 ((k212 : Nat) : Int)) (rs := [[], []]) 1 rfl (by kernel_rfl) (fun _ _ => Yl.move rfl) (GX.takeA (v := .slice A57 l59.length c58) 2 rfl (by kernel_rfl) (fun _ => Yl.move rfl) (GX.takeA (v := .int .i64 ((Int.toNat z213 : Nat) : Int)) 3 rfl (by kernel_rfl) (fun _ => Yl.int (e := z213) (Yl.move rfl) (by omega)) (GX.take (v := .slice A57 l59.length c58) (rs := [[], []]) 4 rfl (by kernel_rfl) (fun _ _ => Yl.move rfl) (GX.take (v := .int .i64 ((Int.toNat z213 : Nat) : Int)) (rs := [[], []]) 5 rfl (by kernel_rfl) (fun _ _ => Yl.int (e := z213) (Yl.move rfl) (by omega)) ?_)))))
  obtain ⟨x232, hx233⟩ := at_of (ls := l214) (i := Int.toNat z213) (by first | omega | (simp; done) | (simp; omega))
  refine GX.take (v := .pointer (some ⟨ab A57, ao A57 + (Int.toNat z213) * 7, none⟩)) (rs := [[], []]) 6 rfl (by kernel_rfl) (fun _ ⟨_, H9⟩ => Yl.indexAddr (El22) rfl rfl ((H9.rds (i := 1) rfl).addr (i := Int.toNat z213) (by omega)) (by omega)) (GX.take (v := .agg (EntryD.cells x232).toArray) (rs := [[], []]) 7 rfl (by kernel_rfl) (fun _ ⟨_, H9⟩ => Yl.load rfl (Lds.agg (cs := (EntryD.cells x232)) Try.isAgg52 Try.sizeOf52 ((H9.rds (i := 1) rfl).elem EntryD.len hx233 (by decide)))) (GX.take (v := .slice A57 l59.length c58) (rs := [[11, 10], []]) 8 rfl (by kernel_rfl) (fun _ _ => Yl.move rfl) (GX.take (v := .int .i64 ((k212 : Nat) : Int)) (rs := [[11, 10], []]) 9 rfl (by kernel_rfl) (fun _ _ => Yl.move rfl) ?_)))
  obtain ⟨x234, hx235⟩ := at_of (ls := l214) (i := k212) (by first | omega | (simp; done) | (simp; omega))
  refine GX.take (v := .pointer (some ⟨ab A57, ao A57 + k212 * 7, none⟩)) (rs := [[11], []]) 10 rfl (by kernel_rfl) (fun _ ⟨_, H9⟩ => Yl.indexAddr (El22) rfl rfl ((H9.rds (i := 1) rfl).addr (i := k212) (by omega)) (by omega)) (GX.take (v := .agg (EntryD.cells x234).toArray) (rs := [[], []]) 11 rfl (by kernel_rfl) (fun _ ⟨_, H9⟩ => Yl.load rfl (Lds.agg (cs := (EntryD.cells x234)) Try.isAgg52 Try.sizeOf52 ((H9.rds (i := 1) rfl).elem EntryD.len hx235 (by decide)))) (GX.take (v := .pointer (some ⟨ab A57, ao A57 + k212 * 7, none⟩)) (rs := [[], []]) 12 rfl (by kernel_rfl) (fun _ ⟨_, H9⟩ => Yl.indexAddr (El22) rfl rfl ((H9.rds (i := 1) rfl).addr (i := k212) (by omega)) (by omega)) ?_))
  have H236 := H231.pick [1, 0, 2] (by decide) rfl
  refine GX.do0 13 rfl (by kernel_rfl) (Do.storeRow (vs := (EntryD.cells x232)) (o := k212 * 7 + 0) (q := ao A57 + k212 * 7) H236 rfl (by omega) rfl Try.sizeOf52 rfl rfl (Nat.le_of_ble_eq_true rfl) (store_fits EntryD.len hx235 (Nat.le_of_ble_eq_true rfl)) (flat_set (y := x232) EntryD.len rfl (Nat.le_of_ble_eq_true rfl) hx235) ?_)
  intro w237 H238
  refine ⟨.inl (by kernel_rfl), ?_⟩
  obtain ⟨x239, hx240⟩ := at_of (ls := l214) (i := Int.toNat z213) (by first | omega | (simp; done) | (simp; omega))
  obtain ⟨x241, hx242⟩ := rds_at (ls := (List.set l214 k212 x232)) (i := Int.toNat z213) EntryD.len (by decide) (H238.rds (i := 0) rfl) (by first | omega | (simp; done) | (simp; omega))
  refine GX.takeA (v := .pointer (some ⟨ab A57, ao A57 + (Int.toNat z213) * 7, none⟩)) 14 rfl (by kernel_rfl) (fun _ => Yl.indexAddr (El22) rfl rfl ((H238.rds (i := 0) rfl).addr (i := Int.toNat z213) (by omega)) (by omega)) ?_
  obtain ⟨x243, hx244⟩ := at_of (ls := (List.set l214 k212 x232)) (i := Int.toNat z213) (by first | omega | (simp; done) | (simp; omega))
  refine GX.do0 15 rfl (by kernel_rfl) (Do.storeRow (vs := (EntryD.cells x234)) (o := (Int.toNat z213) * 7 + 0) (q := ao A57 + (Int.toNat z213) * 7) H238 rfl (by omega) rfl Try.sizeOf52 rfl rfl (Nat.le_of_ble_eq_true rfl) (store_fits EntryD.len hx244 (Nat.le_of_ble_eq_true rfl)) (flat_set (y := x234) EntryD.len rfl (Nat.le_of_ble_eq_true rfl) hx244) ?_)
  intro w245 H246
  refine ⟨.inl (by kernel_rfl), ?_⟩
  refine GX.done (by kernel_rfl) (Fin.blockN (Fin.then (Wp.region (Mv rfl rfl (WL.val (v := .int .i64 ((k212 + 1 : Nat) : Int)) rfl (Yl.int (e := IntKind.i64.wrap (((k212 : Nat) : Int) + 1)) (Yl.kern rfl rfl (fun _ => by kernel_rfl)) (by rw [IntWalk.i64_in _ (by omega)]; omega)) (Mv rfl rfl (WL.val (v := .int .i64 (z213 - 1)) rfl (Yl.int (e := IntKind.i64.wrap (z213 - 1)) (Yl.kern rfl rfl (fun _ => by kernel_rfl)) (by rw [IntWalk.i64_in _ (by omega)])) (As rfl rfl (As rfl rfl (WL.nil ?_))))))))))
  have H247 := H246.pick [1, 0, 2] (by decide) rfl
  exact Fin.round (k212 + 1, z213 - 1, (List.set (List.set l214 k212 x232) (Int.toNat z213) x234), f227) ⟨rfl, rfl, rfl, trivial⟩ ⟨H247, (show List.length (List.set (List.set l214 k212 x232) (Int.toNat z213) x234) = l59.length ∧ (((k212 + 1) : Nat) : Int) + (z213 - 1) = (((l59.length : Nat) : Int) - 1) ∧ -1 ≤ (z213 - 1) ∧ (z213 - 1) ≤ 9223372036854775806 ∧ Int.toNat ((z213 - 1) + 1) < f227 ∧ buffer_Squeeze_L1 ((Int.toNat ((((l59.length : Nat) : Int) - 1) + 1)) + 1) 0 (((l59.length : Nat) : Int) - 1) l59 = buffer_Squeeze_L1 f227 (k212 + 1) (z213 - 1) (List.set (List.set l214 k212 x232) (Int.toNat z213) x234) from ⟨by first | omega | (simp only [List.length_set]; omega) | (simp only [List.length_replicate]), by omega, by omega, by omega, by omega, Eq.trans (hq221) (Eq.trans (if_pos h229) (Eq.trans (bnd_of (getD_of hx233)) (bnd_of (getD_of hx235))))⟩)⟩ (by show f227 < f227 + 1; omega)
  refine Wp.cond0 rfl (decide_eq_false h229) (Wp.exit (Fin.thenX ?_))
  have hL248 : buffer_Squeeze_L1 ((Int.toNat ((((l59.length : Nat) : Int) - 1) + 1)) + 1) 0 (((l59.length : Nat) : Int) - 1) l59 = l214 := Eq.trans (hq221) (if_neg h229)
  refine Fin.thenX (Fin.blockX (Fin.res0 (res0 rfl) (Lf.nil (Ff.then (Wf.seq (Wf.region (Lf.val (v := .slice A57 l59.length c58) rfl rfl (Yl.load rfl (Lds.one Try.isAgg22 (Cls.of (H219.cls (i := 0) rfl) rfl))) (Lf.val (v := .slice A57 l59.length c58) rfl rfl (Yl.assign rfl) (Lf.val (v := .int .i64 0) rfl rfl (Yl.assign rfl) (Lf.nil (Ff.then (Wf.ret (Ff.res ?_)))))))))))))
  have H249 := H219.pick [2, 0, 1] (by decide) rfl
  refine Lv.mark H249 ?_
  intro w250 H251
  refine Lv.nil (res2 rfl rfl rfl) ?_
  have hn252 : l59.length = l214.length := by first | omega | (simp only [List.length_set]; done) | (simp only [List.length_set, List.length_append, List.length_cons, List.length_nil, List.length_take, List.length_drop, List.length_replicate]; omega)
  have H253 : Own w D w250 [blk g40 [.slice A57 l214.length c58] 22, row A57 l214.length c58 (List.flatMap EntryD.cells l214) 52 7] := by rw [← hn252]; exact H251
  have H254 := H253.pick [1] (by decide) rfl
  have e : buffer_Squeeze l0 = (l214, 0) := Eq.trans (bnd_of hr27) (Eq.trans (if_pos h31) (Eq.trans (bnd_of hL210) (bnd_of hL248)))
  obtain ⟨rfl, rfl⟩ := pj2 (e.symm.trans hr)
  exact ⟨A57, c58, (by first | rfl | (rw [← hn252]; done) | (rw [← hn252]; rfl)), H254, (by first | omega | exact Nat.zero_le _)⟩
  intro r255 pre258 w256 _ H257
  rw [hJ68] at H257
  obtain ⟨_, hF, _⟩ := H257.get (i := 1) rfl
  exact hF.elim
  intro r255 id pre258 w256 _ H257
  rw [hJ68] at H257
  obtain ⟨_, hF, _⟩ := H257.get (i := 1) rfl
  exact hF.elim
  refine Wf.cond1 rfl (decide_eq_true h31) (Wf.seq (Wf.region (Lf.val (v := .int .i64 r26) rfl rfl (Yl.move rfl) (Lf.val (v := .slice none 0 0) rfl rfl (Yl.assign rfl) (Lf.val (v := .int .i64 r26) rfl rfl (Yl.assign rfl) (Lf.nil (Ff.then (Wf.ret (Ff.thenR (Ff.res (Lv.nil (res2 rfl rfl rfl) ?_)))))))))))
  have H259 : Own w D w28 [row none 0 0 (List.flatMap EntryD.cells ([])) 52 7] := H30.free (row_nil 52 7)
  have H260 := H259.pick [0] (by decide) rfl
  have e : buffer_Squeeze l0 = ([], r26) := Eq.trans (bnd_of hr27) (if_neg h31)
  obtain ⟨rfl, rfl⟩ := pj2 (e.symm.trans hr)
  exact ⟨none, 0, rfl, H260, (by first | omega | exact Nat.zero_le _)⟩
end Go.Proofs.Ytblpdbnklopchaa
