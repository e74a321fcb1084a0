/-
  op: what operations do to a map.
-/
import Derived.Test.YtcjjblkgbfaapaaOa
namespace Go.Proofs.Ytcjjblkgbfaapaa
open Go.RowKit
set_option linter.unusedVariables false
set_option linter.unusedSectionVars false
set_option linter.unusedSimpArgs false
structure ResultD where
  xFound : Bool
  xValue : List UInt8
  xPairs : Sv PairD
def ResultD.cells (x : ResultD) : List Value := [.bool x.xFound, .string ⟨List.toArray x.xValue⟩, .slice x.xPairs.A x.xPairs.ls.length x.xPairs.c]
instance : Bk ResultD := ⟨fun x _ => bk x.xFound + (bk x.xValue + (bk x.xPairs + (0)))⟩
theorem ResultD.len : ∀ x, (ResultD.cells x).length = 3 := fun _ => rfl
theorem ResultD.one : ∀ x, ∀ u ∈ ResultD.cells x, u.oneCell' = true := fun x u hu => by
  simp only [ResultD.cells, List.mem_cons, List.not_mem_nil, or_false] at hu
  rcases hu with rfl | rfl | rfl <;> rfl
def ResultD.Ok (w : World) (x : ResultD) : Prop := (True) ∧ (x.xValue.length ≤ 140737488351232) ∧ (SvOk w 2 32 PairD.cells (PairD.Ok w) x.xPairs)
instance : Inhabited ResultD := ⟨⟨default, default, default⟩⟩
structure ResultT where
  xFound : Bool
  xValue : List UInt8
  xPairs : Ll PairD
instance : Inhabited ResultT := ⟨⟨default, default, default⟩⟩
def ResultD.abs (x : ResultD) : ResultT := ⟨x.xFound, x.xValue, ⟨x.xPairs.ls⟩⟩
def ResultD.own (x : ResultD) : List HP := [row x.xPairs.A x.xPairs.ls.length x.xPairs.c (List.flatMap PairD.cells x.xPairs.ls) 58 2]
def internal_bytealg_CompareString (p0 : List UInt8) (p1 : List UInt8) : Int :=
  Lib.compareBytes p0 p1
set_option maxRecDepth 100000 in
theorem internal_bytealg_CompareString_ok (w : World) (D : Nat → Prop) (p0 : List UInt8) (p1 : List UInt8) (r0 : Int) (H : Own w D w [])  (hr : internal_bytealg_CompareString p0 p1 = r0) :
    Calls Try.prog 85 #[.string ⟨List.toArray p0⟩, .string ⟨List.toArray p1⟩] w (Ret fun v w' => v = .int .i64 r0 ∧ Own w D w' []) := by
  refine Calls.body (args := [.string ⟨List.toArray p0⟩, .string ⟨List.toArray p1⟩]) Try.func85 rfl rfl rfl ?_
  show Wp _ _ _ [(0, .string ⟨List.toArray p0⟩), (1, .string ⟨List.toArray p1⟩)] _ _
  refine Wp.seq (Wp.region (As rfl rfl (WL.nil (Fin.then (Wp.seq (Wp.region (Mv rfl rfl (Mv rfl rfl (WL.val (v := .int .i64 (Lib.compareBytes p0 p1)) rfl (Yl.cmpStr (run_callFunc_extern Try.func96 (by kernel_rfl) (by kernel_rfl) (by kernel_rfl) (e := Extern.BytealgCompare.compare) (by kernel_rfl)) rfl) (As rfl rfl (WL.nil (Fin.then (Wp.ret (Fin.res (res1 rfl rfl) ?_))))))))))))))
  have H21 : Own w D w [] := H.pick [] (by decide) rfl
  have e : internal_bytealg_CompareString p0 p1 = Lib.compareBytes p0 p1 := rfl
  obtain rfl := e.symm.trans hr
  exact ⟨rfl, H21⟩
def strings_Compare (p0 : List UInt8) (p1 : List UInt8) : Int :=
  bnd (internal_bytealg_CompareString p0 p1) fun yr26 => yr26
set_option maxRecDepth 100000 in
theorem strings_Compare_ok (w : World) (D : Nat → Prop) (p0 : List UInt8) (p1 : List UInt8) (r0 : Int) (H : Own w D w [])  (hr : strings_Compare p0 p1 = r0) :
    Calls Try.prog 63 #[.string ⟨List.toArray p0⟩, .string ⟨List.toArray p1⟩] w (Ret fun v w' => v = .int .i64 r0 ∧ Own w D w' []) := by
  refine Calls.body (args := [.string ⟨List.toArray p0⟩, .string ⟨List.toArray p1⟩]) Try.func63 rfl rfl rfl ?_
  show Wp _ _ _ [(0, .string ⟨List.toArray p0⟩), (1, .string ⟨List.toArray p1⟩)] _ _
  refine Wp.seq (Wp.region (As rfl rfl (WL.nil (Fin.then (Wp.seq (Wp.region (Mv rfl rfl (Mv rfl rfl ?_))))))))
  obtain ⟨r26, hr27⟩ : ∃ q, internal_bytealg_CompareString p0 p1 = q := ⟨_, rfl⟩
  obtain ⟨D21, HP22, ro23, bk24, rr25⟩ := Own.enter0 H
  refine WL.do rfl (Do.call Try.call85 rfl (internal_bytealg_CompareString_ok _ _ p0 p1 r26 HP22 hr27) ?_)
  rintro _ w28 ⟨rfl, HQ29⟩
  have H30 := bk24 _ _ HQ29
  refine As rfl rfl (WL.nil (Fin.then (Wp.ret (Fin.res (res1 rfl rfl) ?_))))
  have H31 := H30.pick [] (by decide) rfl
  have e : strings_Compare p0 p1 = r26 := bnd_of hr27
  obtain rfl := e.symm.trans hr
  exact ⟨rfl, H31⟩
def op_find_1 (p0 : PairD) (p1 : List UInt8) : Int :=
  bnd (strings_Compare p0.xKey p1) fun yr29 => yr29
set_option maxRecDepth 100000 in
theorem op_find_1_ok (w : World) (D : Nat → Prop) (p0 : PairD) (p1 : List UInt8) (r0 : Int) (H : Own w D w [])  (hr : op_find_1 p0 p1 = r0) :
    Calls Try.prog 98 #[.agg (PairD.cells p0).toArray, .string ⟨List.toArray p1⟩] w (Ret fun v w' => v = .int .i64 r0 ∧ Own w D w' []) := by
  refine Calls.body (args := [.agg (PairD.cells p0).toArray, .string ⟨List.toArray p1⟩]) Try.func98 rfl rfl rfl ?_
  show Wp _ _ _ [(0, .agg (PairD.cells p0).toArray), (1, .string ⟨List.toArray p1⟩)] _ _
  refine Wp.seq (Wp.region ?_)
  refine WL.do rfl (Do.newP (cs := (PairD.cells p0)) (t := 58) H rfl rfl (fun _ => by kernel_rfl) ?_)
  intro g21 w22 H23
  refine As rfl rfl (WL.nil (Fin.then (Wp.seq (Wp.region (Kn (v := .pointer (some ⟨g21, 0, none⟩)) rfl rfl rfl (fun _ => by kernel_rfl) (WL.val (v := .string ⟨List.toArray p0.xKey⟩) rfl (Yl.load rfl (Lds.one Try.isAgg9 (Cls.of (H23.cls (i := 0) rfl) rfl))) (Mv rfl rfl ?_)))))))
  obtain ⟨r29, hr30⟩ : ∃ q, strings_Compare p0.xKey p1 = q := ⟨_, rfl⟩
  obtain ⟨D24, HP25, ro26, bk27, rr28⟩ := Own.enter0 H23
  refine WL.do rfl (Do.call Try.call63 rfl (strings_Compare_ok _ _ p0.xKey p1 r29 HP25 hr30) ?_)
  rintro _ w31 ⟨rfl, HQ32⟩
  have H33 := bk27 _ _ HQ32
  refine As rfl rfl (WL.nil (Fin.then (Wp.ret (Fin.res (res1 rfl rfl) ?_))))
  have H34 := H33.pick [] (by decide) rfl
  have e : op_find_1 p0 p1 = r29 := bnd_of hr30
  obtain rfl := e.symm.trans hr
  exact ⟨rfl, H34⟩
def slices_BinarySearchFunc_api_Pair_api_Pair_string_L0 (l0 : List PairD) (p1 : List UInt8) : Nat → Nat → Nat → Nat
  | 0, k21, k22 => default
  | q23 + 1, k21, k22 => if ((k21 : Nat) : Int) < ((k22 : Nat) : Int) then bnd (List.getD l0 ((k21 + k22) / 2) default) fun yx36 => bnd (op_find_1 yx36 p1) fun yr43 => if yr43 < 0 then slices_BinarySearchFunc_api_Pair_api_Pair_string_L0 l0 p1 q23 (((k21 + k22) / 2) + 1) k22 else slices_BinarySearchFunc_api_Pair_api_Pair_string_L0 l0 p1 q23 k21 ((k21 + k22) / 2) else k21
def slices_BinarySearchFunc_api_Pair_api_Pair_string (l0 : List PairD) (p1 : List UInt8) : Int × Bool :=
  bnd (slices_BinarySearchFunc_api_Pair_api_Pair_string_L0 l0 p1 ((l0.length - 0) + 1) 0 l0.length) fun sLrL => if ((sLrL : Nat) : Int) < ((l0.length : Nat) : Int) then bnd (List.getD l0 sLrL default) fun yx53 => bnd (op_find_1 yx53 p1) fun yr60 => (((sLrL : Nat) : Int), decide (yr60 = 0)) else (((sLrL : Nat) : Int), false)
set_option maxRecDepth 100000 in
theorem slices_BinarySearchFunc_api_Pair_api_Pair_string_ok (w : World) (D : Nat → Prop) (A0 : Option Addr) (n0 c0 : Nat) (l0 : List PairD) (p1 : List UInt8) (r0 : Int) (r1 : Bool) (H : Own w D w []) (hx0 : Ro w D fun w' => Rds w' 2 A0 n0 (List.flatMap PairD.cells l0)) (hn0 : n0 = l0.length) (hl0 : l0.length * 32 ≤ 211106232532992) (hr : slices_BinarySearchFunc_api_Pair_api_Pair_string l0 p1 = (r0, r1)) :
    Calls Try.prog 97 #[.slice A0 n0 c0, .string ⟨List.toArray p1⟩, .func (.func 98) #[] #[]] w (Ret fun v w' => v = .tuple #[.int .i64 r0, .bool r1] ∧ Own w D w' [] ∧ (0 ≤ r0 ∧ r0 ≤ ((l0.length : Nat) : Int)) ∧ (Bool.toNat r1 = 0 ∨ r0 < ((l0.length : Nat) : Int))) := by
  subst hn0
  refine Calls.body (args := [.slice A0 l0.length c0, .string ⟨List.toArray p1⟩, .func (.func 98) #[] #[]]) Try.func97 rfl rfl rfl ?_
  show Wp _ _ _ [(0, .slice A0 l0.length c0), (1, .string ⟨List.toArray p1⟩), (2, .func (.func 98) #[] #[])] _ _
  refine Wp.seq (Wp.region (As rfl rfl (As rfl rfl (WL.nil (Fin.then (Wp.seq (Wp.region (Mv rfl rfl (Kn (v := .int .i64 ((l0.length : Nat) : Int)) rfl rfl rfl (fun _ => by kernel_rfl) (As rfl rfl (WL.nil (Fin.then (Wp.seq (Wp.region (Mv rfl rfl (As rfl rfl (As rfl rfl (WL.nil (Fin.then (Wp.seq (Wp.block ?_)))))))))))))))))))))
  have H25 : Own w D w [] := H.pick [] (by decide) rfl
  refine Wp.loop (ι := Nat × Nat × Nat) (fun i => [(9, .int .i64 ((i.1 : Nat) : Int)), (10, .int .i64 ((i.2.1 : Nat) : Int)), (8, .int .i64 ((l0.length : Nat) : Int)), (7, .bool false), (6, .int .i64 0), (0, .slice A0 l0.length c0), (1, .string ⟨List.toArray p1⟩), (2, .func (.func 98) #[] #[])]) (fun (i : Nat × Nat × Nat) w' => Own w D w' [] ∧ (i.1 ≤ i.2.1 ∧ i.2.1 ≤ l0.length ∧ i.2.1 - i.1 < i.2.2 ∧ slices_BinarySearchFunc_api_Pair_api_Pair_string_L0 l0 p1 ((l0.length - 0) + 1) 0 l0.length = slices_BinarySearchFunc_api_Pair_api_Pair_string_L0 l0 p1 i.2.2 i.1 i.2.1)) (fun i => i.2.2) (0, l0.length, (l0.length - 0) + 1) ⟨rfl, rfl, rfl, rfl, rfl, rfl, rfl, rfl, trivial⟩ ⟨H25, (show 0 ≤ l0.length ∧ l0.length ≤ l0.length ∧ l0.length - 0 < ((l0.length - 0) + 1) ∧ slices_BinarySearchFunc_api_Pair_api_Pair_string_L0 l0 p1 ((l0.length - 0) + 1) 0 l0.length = slices_BinarySearchFunc_api_Pair_api_Pair_string_L0 l0 p1 ((l0.length - 0) + 1) 0 l0.length from ⟨by omega, by omega, by omega, rfl⟩)⟩ ?_
  rintro ⟨k21, k22, f24⟩ w26 ⟨H27, hf28⟩
  show Wp _ _ _ [(9, .int .i64 ((k21 : Nat) : Int)), (10, .int .i64 ((k22 : Nat) : Int)), (8, .int .i64 ((l0.length : Nat) : Int)), (7, .bool false), (6, .int .i64 0), (0, .slice A0 l0.length c0), (1, .string ⟨List.toArray p1⟩), (2, .func (.func 98) #[] #[])] _ _
  replace hf28 : k21 ≤ k22 ∧ k22 ≤ l0.length ∧ k22 - k21 < f24 ∧ slices_BinarySearchFunc_api_Pair_api_Pair_string_L0 l0 p1 ((l0.length - 0) + 1) 0 l0.length = slices_BinarySearchFunc_api_Pair_api_Pair_string_L0 l0 p1 f24 k21 k22 := hf28
  obtain ⟨hi30, hi31, hi32, hq29⟩ := hf28
  obtain ⟨f33, hf34⟩ : ∃ q, f24 = q + 1 := ⟨f24 - 1, by omega⟩
  subst hf34
  refine Wp.seq (Wp.seq (Wp.region (Mv rfl rfl (Mv rfl rfl (Kn (v := .bool (decide (((k21 : Nat) : Int) < ((k22 : Nat) : Int)))) rfl rfl rfl (fun _ => by kernel_rfl) (WL.nil (Fin.then ?_)))))))
  by_cases h35 : ((k21 : Nat) : Int) < ((k22 : Nat) : Int)
  refine Wp.cond1 rfl (decide_eq_true h35) (Wp.skip (Fin.then (Wp.block (Wp.seq (Wp.region (Mv rfl rfl (Mv rfl rfl (WL.val (v := .int .i64 ((k21 + k22 : Nat) : Int)) rfl (Yl.int (e := IntKind.i64.wrap (((k21 : Nat) : Int) + ((k22 : Nat) : Int))) (Yl.kern rfl rfl (fun _ => by kernel_rfl)) (by rw [IntWalk.i64_in _ (by omega)]; omega)) (WL.val (v := .int .u64 ((k21 + k22 : Nat) : Int)) rfl (Yl.int (e := IntKind.u64.wrap ((k21 + k22 : Nat) : Int)) (Yl.kern rfl rfl (fun _ => by kernel_rfl)) (IntWalk.u64_in _ (by omega))) (WL.val (v := .int .u64 (((k21 + k22) / 2 : Nat) : Int)) rfl (Yl.int (e := Int.fdiv ((k21 + k22 : Nat) : Int) 2) (Yl.kern rfl rfl (fun _ => by kernel_rfl)) (shr_nat _ 1 _ (by decide))) (WL.val (v := .int .i64 (((k21 + k22) / 2 : Nat) : Int)) rfl (Yl.int (e := IntKind.i64.wrap (((k21 + k22) / 2 : Nat) : Int)) (Yl.kern rfl rfl (fun _ => by kernel_rfl)) (IntWalk.i64_in _ (by omega))) (As rfl rfl (WL.nil (Fin.then (Wp.seq (Wp.region (Mv rfl rfl (Mv rfl rfl (Mv rfl rfl ?_)))))))))))))))))))
  obtain ⟨x36, hx37⟩ := rds_at (ls := l0) (i := (k21 + k22) / 2) PairD.len (by decide) (H27.ro hx0) (by first | omega | (simp; done) | (simp; omega))
  refine WL.val (v := .pointer (some ⟨ab A0, ao A0 + ((k21 + k22) / 2) * 2, none⟩)) rfl (Yl.indexAddr (El54) rfl rfl ((H27.ro hx0).addr (i := (k21 + k22) / 2) (by omega)) (by omega)) (WL.val (v := .agg (PairD.cells x36).toArray) rfl (Yl.load rfl (Lds.agg (cs := (PairD.cells x36)) Try.isAgg58 Try.sizeOf58 ((H27.ro hx0).elem PairD.len hx37 (by decide)))) (Mv rfl rfl ?_))
  obtain ⟨r43, hr44⟩ : ∃ q, op_find_1 x36 p1 = q := ⟨_, rfl⟩
  obtain ⟨D38, HP39, ro40, bk41, rr42⟩ := Own.enter0 H27
  refine WL.do rfl (Do.callV Try.call98 rfl rfl (op_find_1_ok _ _ x36 p1 r43 HP39 hr44) ?_)
  rintro _ w45 ⟨rfl, HQ46⟩
  have H47 := bk41 _ _ HQ46
  refine Kn (v := .bool (decide (r43 < 0))) rfl rfl rfl (fun _ => by kernel_rfl) (WL.nil (Fin.then ?_))
  by_cases h48 : r43 < 0
  refine Wp.cond1 rfl (decide_eq_true h48) (Wp.region (Mv rfl rfl (WL.val (v := .int .i64 ((((k21 + k22) / 2) + 1 : Nat) : Int)) rfl (Yl.int (e := IntKind.i64.wrap ((((k21 + k22) / 2 : Nat) : Int) + 1)) (Yl.kern rfl rfl (fun _ => by kernel_rfl)) (by rw [IntWalk.i64_in _ (by omega)]; omega)) (As rfl rfl (WL.nil (Fin.blockN ?_))))))
  have H49 := H47.pick [] (by decide) rfl
  exact Fin.round (((k21 + k22) / 2) + 1, k22, f33) ⟨rfl, rfl, rfl, rfl, rfl, rfl, rfl, rfl, trivial⟩ ⟨H49, (show (((k21 + k22) / 2) + 1) ≤ k22 ∧ k22 ≤ l0.length ∧ k22 - (((k21 + k22) / 2) + 1) < f33 ∧ slices_BinarySearchFunc_api_Pair_api_Pair_string_L0 l0 p1 ((l0.length - 0) + 1) 0 l0.length = slices_BinarySearchFunc_api_Pair_api_Pair_string_L0 l0 p1 f33 (((k21 + k22) / 2) + 1) k22 from ⟨by omega, by omega, by omega, Eq.trans (hq29) (Eq.trans (if_pos h35) (Eq.trans (bnd_of (getD_of hx37)) (Eq.trans (bnd_of hr44) (if_pos h48))))⟩)⟩ (by show f33 < f33 + 1; omega)
  refine Wp.cond0 rfl (decide_eq_false h48) (Wp.region (Mv rfl rfl (As rfl rfl (WL.nil (Fin.blockN ?_)))))
  have H50 := H47.pick [] (by decide) rfl
  exact Fin.round (k21, (k21 + k22) / 2, f33) ⟨rfl, rfl, rfl, rfl, rfl, rfl, rfl, rfl, trivial⟩ ⟨H50, (show k21 ≤ ((k21 + k22) / 2) ∧ ((k21 + k22) / 2) ≤ l0.length ∧ ((k21 + k22) / 2) - k21 < f33 ∧ slices_BinarySearchFunc_api_Pair_api_Pair_string_L0 l0 p1 ((l0.length - 0) + 1) 0 l0.length = slices_BinarySearchFunc_api_Pair_api_Pair_string_L0 l0 p1 f33 k21 ((k21 + k22) / 2) from ⟨by omega, by omega, by omega, Eq.trans (hq29) (Eq.trans (if_pos h35) (Eq.trans (bnd_of (getD_of hx37)) (Eq.trans (bnd_of hr44) (if_neg h48))))⟩)⟩ (by show f33 < f33 + 1; omega)
  refine Wp.cond0 rfl (decide_eq_false h35) (Wp.exit (Fin.thenX ?_))
  have hL51 : slices_BinarySearchFunc_api_Pair_api_Pair_string_L0 l0 p1 ((l0.length - 0) + 1) 0 l0.length = k21 := Eq.trans (hq29) (if_neg h35)
  refine Fin.thenX (Fin.blockX (Fin.then (Wp.seq (Wp.region (Mv rfl rfl (Mv rfl rfl (Mv rfl rfl (Kn (v := .bool (decide (((k21 : Nat) : Int) < ((l0.length : Nat) : Int)))) rfl rfl rfl (fun _ => by kernel_rfl) (Mv rfl rfl ?_)))))))))
  by_cases h52 : ((k21 : Nat) : Int) < ((l0.length : Nat) : Int)
  refine WL.valG (v := .func (.func 98) #[] #[]) rfl rfl (decide_eq_true h52) rfl (Yl.move rfl) (WL.valG (v := .slice A0 l0.length c0) rfl rfl (decide_eq_true h52) rfl (Yl.move rfl) (WL.valG (v := .int .i64 ((k21 : Nat) : Int)) rfl rfl (decide_eq_true h52) rfl (Yl.move rfl) ?_))
  obtain ⟨x53, hx54⟩ := rds_at (ls := l0) (i := k21) PairD.len (by decide) (H27.ro hx0) (by first | omega | (simp; done) | (simp; omega))
  refine WL.valG (v := .pointer (some ⟨ab A0, ao A0 + k21 * 2, none⟩)) rfl rfl (decide_eq_true h52) rfl (Yl.indexAddr (El54) rfl rfl ((H27.ro hx0).addr (i := k21) (by omega)) (by omega)) (WL.valG (v := .agg (PairD.cells x53).toArray) rfl rfl (decide_eq_true h52) rfl (Yl.load rfl (Lds.agg (cs := (PairD.cells x53)) Try.isAgg58 Try.sizeOf58 ((H27.ro hx0).elem PairD.len hx54 (by decide)))) (WL.valG (v := .string ⟨List.toArray p1⟩) rfl rfl (decide_eq_true h52) rfl (Yl.move rfl) ?_))
  obtain ⟨r60, hr61⟩ : ∃ q, op_find_1 x53 p1 = q := ⟨_, rfl⟩
  obtain ⟨D55, HP56, ro57, bk58, rr59⟩ := Own.enter0 H27
  refine WL.doG rfl rfl (decide_eq_true h52) rfl (Do.callV Try.call98 rfl rfl (op_find_1_ok _ _ x53 p1 r60 HP56 hr61) ?_)
  rintro _ w62 ⟨rfl, HQ63⟩
  have H64 := bk58 _ _ HQ63
  refine WL.valG (v := .bool (decide (r60 = 0))) rfl rfl (decide_eq_true h52) rfl (Yl.kern rfl rfl (fun _ => by kernel_rfl)) (WL.val (v := .bool (decide (r60 = 0))) rfl (Yl.pickT rfl (decide_eq_true h52) rfl) (As rfl rfl (As rfl rfl (WL.nil (Fin.then (Wp.ret (Fin.res (res2 rfl rfl rfl) ?_)))))))
  have H65 := H64.pick [] (by decide) rfl
  have e : slices_BinarySearchFunc_api_Pair_api_Pair_string l0 p1 = (((k21 : Nat) : Int), decide (r60 = 0)) := Eq.trans (bnd_of hL51) (Eq.trans (if_pos h52) (Eq.trans (bnd_of (getD_of hx54)) (bnd_of hr61)))
  obtain ⟨rfl, rfl⟩ := pj2 (e.symm.trans hr)
  exact ⟨rfl, H65, (by omega), (by first | omega | exact .inl rfl)⟩
  refine Sk rfl rfl (decide_eq_false h52) rfl (Sk rfl rfl (decide_eq_false h52) rfl (Sk rfl rfl (decide_eq_false h52) rfl (Sk rfl rfl (decide_eq_false h52) rfl (Sk rfl rfl (decide_eq_false h52) rfl (Sk rfl rfl (decide_eq_false h52) rfl (Sk rfl rfl (decide_eq_false h52) rfl (Sk rfl rfl (decide_eq_false h52) rfl (WL.val (v := .bool false) rfl (Yl.pickF rfl (decide_eq_false h52) rfl) (As rfl rfl (As rfl rfl (WL.nil (Fin.then (Wp.ret (Fin.res (res2 rfl rfl rfl) ?_))))))))))))))
  have H66 := H27.pick [] (by decide) rfl
  have e : slices_BinarySearchFunc_api_Pair_api_Pair_string l0 p1 = (((k21 : Nat) : Int), false) := Eq.trans (bnd_of hL51) (if_neg h52)
  obtain ⟨rfl, rfl⟩ := pj2 (e.symm.trans hr)
  exact ⟨rfl, H66, (by omega), (by first | omega | exact .inl rfl)⟩
def op_find (l0 : List PairD) (p1 : List UInt8) : Int × Bool :=
  bnd (slices_BinarySearchFunc_api_Pair_api_Pair_string l0 p1) fun yr26 => (yr26.1, yr26.2)
set_option maxRecDepth 100000 in
theorem op_find_ok (w : World) (D : Nat → Prop) (A0 : Option Addr) (n0 c0 : Nat) (l0 : List PairD) (p1 : List UInt8) (r0 : Int) (r1 : Bool) (H : Own w D w []) (hx0 : Ro w D fun w' => Rds w' 2 A0 n0 (List.flatMap PairD.cells l0)) (hn0 : n0 = l0.length) (hl0 : l0.length * 32 ≤ 211106232532992) (hr : op_find l0 p1 = (r0, r1)) :
    Calls Try.prog 89 #[.slice A0 n0 c0, .string ⟨List.toArray p1⟩] w (Ret fun v w' => v = .tuple #[.int .i64 r0, .bool r1] ∧ Own w D w' [] ∧ (0 ≤ r0 ∧ r0 ≤ ((l0.length : Nat) : Int)) ∧ (Bool.toNat r1 = 0 ∨ r0 < ((l0.length : Nat) : Int))) := by
  subst hn0
  refine Calls.body (args := [.slice A0 l0.length c0, .string ⟨List.toArray p1⟩]) Try.func89 rfl rfl rfl ?_
  show Wp _ _ _ [(0, .slice A0 l0.length c0), (1, .string ⟨List.toArray p1⟩)] _ _
  refine Wp.seq (Wp.region (As rfl rfl (As rfl rfl (WL.nil (Fin.then (Wp.seq (Wp.region (Mv rfl rfl (Mv rfl rfl ?_)))))))))
  obtain ⟨⟨r26, r27⟩, hr28⟩ : ∃ q : Int × Bool, slices_BinarySearchFunc_api_Pair_api_Pair_string l0 p1 = q := ⟨_, rfl⟩
  obtain ⟨D21, HP22, ro23, bk24, rr25⟩ := Own.enter0 H
  refine WL.do rfl (Do.call Try.call97 rfl (slices_BinarySearchFunc_api_Pair_api_Pair_string_ok _ _ A0 l0.length c0 l0 p1 r26 r27 HP22 (ro23 _ hx0) rfl (by omega) hr28) ?_)
  rintro _ w29 ⟨rfl, HQ30, hk32, hk33⟩
  have H31 := bk24 _ _ HQ30
  replace hk32 : 0 ≤ r26 ∧ r26 ≤ ((l0.length : Nat) : Int) := hk32
  replace hk33 : Bool.toNat r27 = 0 ∨ r26 < ((l0.length : Nat) : Int) := hk33
  refine Kn (v := .int .i64 r26) rfl rfl rfl (fun _ => by kernel_rfl) (Kn (v := .bool r27) rfl rfl rfl (fun _ => by kernel_rfl) (As rfl rfl (As rfl rfl (WL.nil (Fin.then (Wp.ret (Fin.res (res2 rfl rfl rfl) ?_)))))))
  have H34 := H31.pick [] (by decide) rfl
  have e : op_find l0 p1 = (r26, r27) := bnd_of hr28
  obtain ⟨rfl, rfl⟩ := pj2 (e.symm.trans hr)
  exact ⟨rfl, H34, (by omega), (by first | omega | exact .inl rfl)⟩
def op_get (l0 : List PairD) (p1 : OpD) : (List PairD) × ResultT :=
  bnd (op_find l0 p1.xKey) fun yr32 => if yr32.2 = true then bnd (List.getD l0 (Int.toNat yr32.1) default) fun yx45 => (l0, ResultT.mk true yx45.xValue (Ll.mk ([]))) else (l0, ResultT.mk false ([]) (Ll.mk ([])))
set_option maxRecDepth 100000 in
theorem op_get_ok (w : World) (D : Nat → Prop) (A0 : Option Addr) (n0 c0 : Nat) (l0 : List PairD) (p1 : OpD) (r0 : List PairD) (r1 : ResultT) (H : Own w D w [row A0 n0 c0 (List.flatMap PairD.cells l0) 58 2]) (hn0 : n0 = l0.length) (hl0 : l0.length * 32 ≤ 211106232532992) (hh0 : (l0.length + 1) * 32 ≤ 211106232532992) (hr : op_get l0 p1 = (r0, r1)) :
    Calls Try.prog 70 #[.slice A0 n0 c0, .agg (OpD.cells p1).toArray] w (Ret fun v w' => ∃ (B0 : Option Addr) (b0 : Nat) (B1x0 : Option Addr) (b1x0 : Nat), v = .tuple #[.slice B0 r0.length b0, .agg #[.bool r1.xFound, .string ⟨List.toArray r1.xValue⟩, .slice B1x0 r1.xPairs.ls.length b1x0]] ∧ Own w D w' [row B0 r0.length b0 (List.flatMap PairD.cells r0) 58 2, row B1x0 r1.xPairs.ls.length b1x0 (List.flatMap PairD.cells r1.xPairs.ls) 58 2] ∧ (r0.length ≤ l0.length + 1)) := by
  subst hn0
  have hc0 := H.rowC (i := 0) rfl
  refine Calls.body (args := [.slice A0 l0.length c0, .agg (OpD.cells p1).toArray]) Try.func70 rfl rfl rfl ?_
  show Wp _ _ _ [(0, .slice A0 l0.length c0), (1, .agg (OpD.cells p1).toArray)] _ _
  refine Wp.seq (Wp.region ?_)
  refine WL.do rfl (Do.newP (cs := (OpD.cells p1)) (t := 74) H rfl rfl (fun _ => by kernel_rfl) ?_)
  intro g21 w22 H23
  refine As rfl rfl ?_
  refine WL.do rfl (Do.newP (cs := [.bool false, .string ⟨List.toArray ([])⟩, .slice none 0 0]) (t := 56) H23 rfl rfl (fun _ => by kernel_rfl) ?_)
  intro g24 w25 H26
  refine WL.nil (Fin.then (Wp.seq (Wp.region (Mv rfl rfl (Kn (v := .pointer (some ⟨g21, 1, none⟩)) rfl rfl rfl (fun _ => by kernel_rfl) (WL.val (v := .string ⟨List.toArray p1.xKey⟩) rfl (Yl.load rfl (Lds.one Try.isAgg9 (Cls.of (H26.cls (i := 1) rfl) rfl))) ?_))))))
  obtain ⟨⟨r32, r33⟩, hr34⟩ : ∃ q : Int × Bool, op_find l0 p1.xKey = q := ⟨_, rfl⟩
  obtain ⟨D27, HP28, ro29, bk30, rr31⟩ := Own.enter0 H26
  refine WL.do rfl (Do.call Try.call89 rfl (op_find_ok _ _ A0 l0.length c0 l0 p1.xKey r32 r33 HP28 (rr31 _ 2 _ rfl row_rds) rfl (by omega) hr34) ?_)
  rintro _ w35 ⟨rfl, HQ36, hk38, hk39⟩
  have H37 := bk30 _ _ HQ36
  replace hk38 : 0 ≤ r32 ∧ r32 ≤ ((l0.length : Nat) : Int) := hk38
  replace hk39 : Bool.toNat r33 = 0 ∨ r32 < ((l0.length : Nat) : Int) := hk39
  refine Mv rfl rfl (Kn (v := .int .i64 r32) rfl rfl rfl (fun _ => by kernel_rfl) (Kn (v := .bool r33) rfl rfl rfl (fun _ => by kernel_rfl) (As rfl rfl (As rfl rfl (WL.nil (Fin.then (Wp.seq (Wp.seq ?_))))))))
  have H40 := H37.pick [0, 2] (by decide) rfl
  refine Wp.region (Mv rfl rfl (Kn (v := .bool (!r33)) rfl rfl rfl (fun _ => by kernel_rfl) (WL.nil (Fin.then ?_))))
  rcases Bool.eq_false_or_eq_true (r33) with h41 | h41
  have h41t : Bool.toNat r33 = 1 := by rw [h41]; rfl
  refine Wp.cond0 rfl (congrArg not h41) (Wp.skip (Fin.then (Wp.seq ?_)))
  have H42 := H40.pick [1, 0] (by decide) rfl
  have H44 := H42.drew
  refine Wp.drawnX [] (fun W => ∃ L', Own w D W ([row A0 l0.length c0 (List.flatMap PairD.cells l0) 58 2] ++ L')) (by kernel_rfl) (by kernel_rfl) (NoP.then NoP.base) ⟨_, H44⟩ ?_
  revert H44
  generalize World.drew w35 = w43
  intro H44
  refine GX.take (v := .slice A0 l0.length c0) (rs := []) 0 rfl (by kernel_rfl) (fun _ _ => Yl.move rfl) (GX.take (v := .slice A0 l0.length c0) (rs := []) 1 rfl (by kernel_rfl) (fun _ _ => Yl.move rfl) (GX.take (v := .int .i64 ((Int.toNat r32 : Nat) : Int)) (rs := []) 2 rfl (by kernel_rfl) (fun _ _ => Yl.int (e := r32) (Yl.move rfl) (by omega)) ?_))
  obtain ⟨x45, hx46⟩ := at_of (ls := l0) (i := Int.toNat r32) (by first | omega | (simp; done) | (simp; omega))
  refine GX.take (v := .pointer (some ⟨ab A0, ao A0 + (Int.toNat r32) * 2, none⟩)) (rs := []) 3 rfl (by kernel_rfl) (fun _ ⟨_, H9⟩ => Yl.indexAddr (El54) rfl rfl ((H9.rds (i := 0) rfl).addr (i := Int.toNat r32) (by omega)) (by omega)) (GX.take (v := .pointer (some ⟨ab A0, ao A0 + (Int.toNat r32) * 2 + 1, none⟩)) (rs := []) 4 rfl (by kernel_rfl) (fun _ _ => Yl.kern rfl rfl (fun _ => by kernel_rfl)) (GX.take (v := .string ⟨List.toArray x45.xValue⟩) (rs := []) 5 rfl (by kernel_rfl) (fun _ ⟨_, H9⟩ => Yl.load rfl (Lds.one Try.isAgg9 (((H9.rds (i := 0) rfl).elem PairD.len hx46 (by decide)).at_ (k := 1) rfl))) (GX.take (v := .agg #[.bool true, .string ⟨List.toArray x45.xValue⟩, .slice none 0 0]) (rs := []) 6 rfl (by kernel_rfl) (fun _ _ => Yl.kern rfl rfl (fun _ => by kernel_rfl)) (GX.take (v := .slice A0 l0.length c0) (rs := []) 7 rfl (by kernel_rfl) (fun _ _ => Yl.assign rfl) ?_))))
  have H47 := H44.pick [1, 0] (by decide) rfl
  refine GX.do0 8 rfl (by kernel_rfl) (Do.store (vs := [.bool true, .string ⟨List.toArray x45.xValue⟩, .slice none 0 0]) (o := 0) H47 rfl rfl Try.sizeOf56 rfl rfl rfl rfl ?_)
  intro w48 H49
  have H50 := H49.pick [1, 0] (by decide) rfl
  refine ⟨.inr ⟨_, H50⟩, ?_⟩
  refine GX.done (by kernel_rfl) (Fin.then (Wp.ret (Fin.res (resN (vs := [.slice A0 l0.length c0, .agg #[.bool true, .string ⟨List.toArray x45.xValue⟩, .slice none 0 0]]) rfl (ResV.tmp rfl (ResV.cell rfl (Lds.agg (cs := [.bool true, .string ⟨List.toArray x45.xValue⟩, .slice none 0 0]) Try.isAgg56 Try.sizeOf56 ((H50.cls (i := 1) rfl).lit (k := 0) (m := 3) rfl)) ResV.nil)) (Nat.le_of_ble_eq_true rfl)) ?_)))
  have H51 : Own w D w48 [row none 0 0 (List.flatMap PairD.cells ([])) 58 2, row A0 l0.length c0 (List.flatMap PairD.cells l0) 58 2, blk g24 [.bool true, .string ⟨List.toArray x45.xValue⟩, .slice none 0 0] 56] := H50.free (row_nil 58 2)
  have H52 := H51.pick [1, 0] (by decide) rfl
  have e : op_get l0 p1 = (l0, ResultT.mk true x45.xValue (Ll.mk ([]))) := Eq.trans (bnd_of hr34) (Eq.trans (if_pos h41) (bnd_of (getD_of hx46)))
  obtain ⟨rfl, rfl⟩ := pj2 (e.symm.trans hr)
  exact ⟨A0, c0, none, 0, rfl, H52, (by omega)⟩
  have h41t : Bool.toNat r33 = 0 := by rw [h41]; rfl
  refine Wp.cond1 rfl (congrArg not h41) (Wp.seq (Wp.region (Mv rfl rfl (Kn (v := .agg #[.bool false, .string ⟨List.toArray ([])⟩, .slice none 0 0]) rfl rfl rfl (fun _ => by kernel_rfl) (As rfl rfl ?_)))))
  refine WL.do0 (Do.store (vs := [.bool false, .string ⟨List.toArray ([])⟩, .slice none 0 0]) (o := 0) H40 rfl rfl Try.sizeOf56 rfl rfl rfl rfl ?_)
  intro w53 H54
  refine WL.nil (Fin.then (Wp.ret (Fin.thenR (Fin.res (resN (vs := [.slice A0 l0.length c0, .agg #[.bool false, .string ⟨List.toArray ([])⟩, .slice none 0 0]]) rfl (ResV.tmp rfl (ResV.cell rfl (Lds.agg (cs := [.bool false, .string ⟨List.toArray ([])⟩, .slice none 0 0]) Try.isAgg56 Try.sizeOf56 ((H54.cls (i := 0) rfl).lit (k := 0) (m := 3) rfl)) ResV.nil)) (Nat.le_of_ble_eq_true rfl)) ?_))))
  have H55 : Own w D w53 [row none 0 0 (List.flatMap PairD.cells ([])) 58 2, blk g24 [.bool false, .string ⟨List.toArray ([])⟩, .slice none 0 0] 56, row A0 l0.length c0 (List.flatMap PairD.cells l0) 58 2] := H54.free (row_nil 58 2)
  have H56 := H55.pick [2, 0] (by decide) rfl
  have e : op_get l0 p1 = (l0, ResultT.mk false ([]) (Ll.mk ([]))) := Eq.trans (bnd_of hr34) (ifF h41)
  obtain ⟨rfl, rfl⟩ := pj2 (e.symm.trans hr)
  exact ⟨A0, c0, none, 0, rfl, H56, (by omega)⟩
def slices_Insert_api_Pair_api_Pair (l0 : List PairD) (p1 : Int) (x2 : PairD) : (List PairD) :=
  if ((Int.toNat p1 : Nat) : Int) = ((l0.length : Nat) : Int) then (l0 ++ [x2]) else (List.take (Int.toNat p1) l0 ++ (x2 :: List.drop (Int.toNat p1) l0))
set_option maxRecDepth 100000 in
theorem slices_Insert_api_Pair_api_Pair_ok (w : World) (D : Nat → Prop) (A0 : Option Addr) (n0 c0 : Nat) (l0 : List PairD) (p1 : Int) (A2 : Option Addr) (x2 : PairD) (r0 : List PairD) (H : Own w D w [row A0 n0 c0 (List.flatMap PairD.cells l0) 58 2, rowz A2 1 (List.flatMap PairD.cells ([x2])) 58 2]) (hn0 : n0 = l0.length) (hl0 : l0.length * 32 ≤ 211106232532992) (hh0 : 0 ≤ p1 ∧ p1 ≤ ((l0.length : Nat) : Int) ∧ (l0.length + 1) * 32 ≤ 211106232532992) (hr : slices_Insert_api_Pair_api_Pair l0 p1 x2 = r0) :
    Calls Try.prog 90 #[.slice A0 n0 c0, .int .i64 p1, .slice A2 1 1] w (Ret fun v w' => ∃ (B0 : Option Addr) (b0 : Nat), v = .slice B0 r0.length b0 ∧ Own w D w' [row B0 r0.length b0 (List.flatMap PairD.cells r0) 58 2] ∧ (r0.length = l0.length + 1)) := by
  subst hn0
  have hc0 := H.rowC (i := 0) rfl
  refine Calls.body (args := [.slice A0 l0.length c0, .int .i64 p1, .slice A2 1 1]) Try.func90 rfl rfl rfl ?_
  show Wp _ _ _ [(0, .slice A0 l0.length c0), (1, .int .i64 p1), (2, .slice A2 1 1)] _ _
  refine Wp.seq (Wp.region (As rfl rfl (WL.nil (Fin.then (Wp.seq (Wp.region (Mv rfl rfl (WL.val (v := .int .i64 ((Int.toNat p1 : Nat) : Int)) rfl (Yl.int (e := p1) (Yl.move rfl) (by omega)) (WL.val (v := .slice (cutA A0 (Int.toNat p1) 2 c0) (l0.length - (Int.toNat p1)) (c0 - (Int.toNat p1))) rfl (Yl.cutFrom (El54) rfl rfl (by omega)) (WL.nil (Fin.then (Wp.seq (Wp.region (Mv rfl rfl (Kn (v := .int .i64 1) rfl rfl rfl (fun _ => by kernel_rfl) (As rfl rfl (WL.nil (Fin.then (Wp.seq (Wp.seq (Wp.region (Mv rfl rfl (Kn (v := .bool false) rfl rfl rfl (fun _ => by kernel_rfl) (WL.nil (Fin.then (Wp.cond0 rfl rfl (Wp.skip (Fin.then (Wp.seq (Wp.region (Mv rfl rfl (Kn (v := .int .i64 ((l0.length : Nat) : Int)) rfl rfl rfl (fun _ => by kernel_rfl) (As rfl rfl (WL.nil (Fin.then (Wp.seq (Wp.seq (Wp.region (WL.val (v := .int .i64 ((Int.toNat p1 : Nat) : Int)) rfl (Yl.int (e := p1) (Yl.move rfl) (by omega)) ?_)))))))))))))))))))))))))))))))))))))))
  refine Mv rfl rfl (Kn (v := .bool (decide (((Int.toNat p1 : Nat) : Int) = ((l0.length : Nat) : Int)))) rfl rfl rfl (fun _ => by kernel_rfl) (WL.nil (Fin.then ?_)))
  by_cases h21 : ((Int.toNat p1 : Nat) : Int) = ((l0.length : Nat) : Int)
  refine Wp.cond1 rfl (decide_eq_true h21) (Wp.seq (Wp.region (Mv rfl rfl (Mv rfl rfl ?_))))
  refine WL.do rfl (Do.appendW (k := l0.length) (m := 1) (El54) H rfl rfl (src_of Try.underlying54 (own_rd H (i := 1) rfl rowz_rds) (flat_one PairD.one ([x2]))) rfl (by omega) (s := List.length (l0 ++ [x2])) (by first | omega | (simp only [List.length_append, List.length_cons, List.length_nil] <;> omega)) (List.flatMap_append).symm ?_)
  intro A22 c23 w24 H25
  have hl26 : List.length (l0 ++ [x2]) = l0.length + 1 := by simp only [List.length_append, List.length_cons, List.length_nil]
  refine As rfl rfl (WL.nil (Fin.then (Wp.ret (Fin.thenR (Fin.res (res1 rfl rfl) ?_)))))
  have H27 := H25.pick [0] (by decide) rfl
  have e : slices_Insert_api_Pair_api_Pair l0 p1 x2 = (l0 ++ [x2]) := if_pos h21
  obtain rfl := e.symm.trans hr
  exact ⟨A22, c23, rfl, H27, (by omega)⟩
  refine Wp.cond0 rfl (decide_eq_false h21) (Wp.skip (Fin.then (Wp.seq (Wp.seq (Wp.region (Mv rfl rfl (Mv rfl rfl (WL.val (v := .int .i64 ((l0.length + 1 : Nat) : Int)) rfl (Yl.int (e := IntKind.i64.wrap (((l0.length : Nat) : Int) + 1)) (Yl.kern rfl rfl (fun _ => by kernel_rfl)) (by rw [IntWalk.i64_in _ (by omega)]; omega)) (Mv rfl rfl (Kn (v := .int .i64 ((c0 : Nat) : Int)) rfl rfl rfl (fun _ => by kernel_rfl) (Kn (v := .bool (decide (((l0.length + 1 : Nat) : Int) > ((c0 : Nat) : Int)))) rfl rfl rfl (fun _ => by kernel_rfl) (WL.nil (Fin.then ?_)))))))))))))
  by_cases h28 : ((l0.length + 1 : Nat) : Int) > ((c0 : Nat) : Int)
  refine Wp.cond1 rfl (decide_eq_true h28) (Wp.seq (Wp.region (Mv rfl rfl (WL.val (v := .int .i64 ((Int.toNat p1 : Nat) : Int)) rfl (Yl.int (e := p1) (Yl.move rfl) (by omega)) (WL.val (v := .slice A0 (Int.toNat p1) c0) rfl (Yl.cutTo (El54) rfl rfl (by omega)) (Mv rfl rfl (Mv rfl rfl (WL.val (v := .int .i64 ((l0.length + 1 : Nat) : Int)) rfl (Yl.int (e := IntKind.i64.wrap (((l0.length : Nat) : Int) + 1)) (Yl.kern rfl rfl (fun _ => by kernel_rfl)) (by rw [IntWalk.i64_in _ (by omega)]; omega)) (WL.val (v := .int .i64 ((Int.toNat p1 : Nat) : Int)) rfl (Yl.int (e := p1) (Yl.move rfl) (by omega)) (WL.val (v := .int .i64 (((l0.length + 1) - (Int.toNat p1) : Nat) : Int)) rfl (Yl.int (e := IntKind.i64.wrap (((l0.length + 1 : Nat) : Int) - ((Int.toNat p1 : Nat) : Int))) (Yl.kern rfl rfl (fun _ => by kernel_rfl)) (by rw [IntWalk.i64_in _ (by omega)]; omega)) ?_))))))))))
  have hl29 : List.length (List.take (Int.toNat p1) l0 ++ (x2 :: List.drop (Int.toNat p1) l0)) = l0.length + 1 := by simp only [List.length_append, List.length_take, List.length_cons, List.length_drop]; omega
  refine WL.do rfl (Do.appendZeros (k := Int.toNat p1) (m := (l0.length + 1) - (Int.toNat p1)) (El54) Try.underlying3 H rfl rfl (by omega) (by omega) (by omega) rfl (by omega) (s := List.length (List.take (Int.toNat p1) l0 ++ (x2 :: List.drop (Int.toNat p1) l0))) (by omega) ?_)
  intro A30 c31 zs32 w34 hz33 H35
  have hle36 := H35.rowLe (i := 0) rfl
  refine As rfl rfl (WL.nil (Fin.then (Wp.seq (Wp.region (Mv rfl rfl (WL.val (v := .int .i64 ((Int.toNat p1 : Nat) : Int)) rfl (Yl.int (e := p1) (Yl.move rfl) (by omega)) (WL.val (v := .slice (cutA A30 (Int.toNat p1) 2 c31) ((List.length (List.take (Int.toNat p1) l0 ++ (x2 :: List.drop (Int.toNat p1) l0))) - (Int.toNat p1)) (c31 - (Int.toNat p1))) rfl (Yl.cutFrom (El54) rfl rfl (by omega)) (Mv rfl rfl ?_))))))))
  refine WL.do rfl (Do.copyT (lo := Int.toNat p1) (k := 1) (El54) H35 rfl (fun _ => cutA_pos ((H35.rds (i := 0) rfl).isSome (by omega)) (by omega)) (by omega) rfl (own_rd H35 (i := 2) rfl rowz_rds) (by omega) (fun u hu => flat_one PairD.one _ u (List.mem_of_mem_take hu)) rfl ?_)
  intro w37 H38
  refine WL.nil (Fin.then (Wp.seq ?_))
  have H40 := H38.drew
  refine Wp.drawnX [8] (fun W => ∃ L', Own w D W ([row A30 (List.length (List.take (Int.toNat p1) l0 ++ (x2 :: List.drop (Int.toNat p1) l0))) c31 (put ((List.flatMap PairD.cells l0).take ((Int.toNat p1) * 2) ++ zs32) ((Int.toNat p1) * 2) (List.take (1 * 2) (List.flatMap PairD.cells [x2]))) 58 2, row A0 l0.length c0 (List.flatMap PairD.cells l0) 58 2, rowz A2 1 (List.flatMap PairD.cells ([x2])) 58 2] ++ L')) (by kernel_rfl) (by kernel_rfl) (NoP.then (NoP.then NoP.base)) ⟨_, H40⟩ ?_
  revert H40
  generalize World.drew w37 = w39
  intro H40
  refine GX.take (v := .slice A30 (List.length (List.take (Int.toNat p1) l0 ++ (x2 :: List.drop (Int.toNat p1) l0))) c31) (rs := [[4]]) 0 rfl (by kernel_rfl) (fun _ _ => Yl.move rfl) (GX.take (v := .int .i64 ((Int.toNat p1 : Nat) : Int)) (rs := [[4, 3]]) 1 rfl (by kernel_rfl) (fun _ _ => Yl.int (e := p1) (Yl.move rfl) (by omega)) (GX.take (v := .int .i64 1) (rs := [[4, 3]]) 2 rfl (by kernel_rfl) (fun _ _ => Yl.move rfl) (GX.take (v := .int .i64 ((Int.toNat p1 + 1 : Nat) : Int)) (rs := [[4]]) 3 rfl (by kernel_rfl) (fun _ _ => Yl.int (e := IntKind.i64.wrap (((Int.toNat p1 : Nat) : Int) + 1)) (Yl.kern rfl rfl (fun _ => by kernel_rfl)) (by rw [IntWalk.i64_in _ (by omega)]; omega)) (GX.take (v := .slice (cutA A30 (Int.toNat p1 + 1) 2 c31) ((List.length (List.take (Int.toNat p1) l0 ++ (x2 :: List.drop (Int.toNat p1) l0))) - (Int.toNat p1 + 1)) (c31 - (Int.toNat p1 + 1))) (rs := [[]]) 4 rfl (by kernel_rfl) (fun _ _ => Yl.cutFrom (El54) rfl rfl (by omega)) (GX.take (v := .slice A0 l0.length c0) (rs := [[7]]) 5 rfl (by kernel_rfl) (fun _ _ => Yl.move rfl) (GX.take (v := .int .i64 ((Int.toNat p1 : Nat) : Int)) (rs := [[7]]) 6 rfl (by kernel_rfl) (fun _ _ => Yl.int (e := p1) (Yl.move rfl) (by omega)) (GX.take (v := .slice (cutA A0 (Int.toNat p1) 2 c0) (l0.length - (Int.toNat p1)) (c0 - (Int.toNat p1))) (rs := [[]]) 7 rfl (by kernel_rfl) (fun _ _ => Yl.cutFrom (El54) rfl rfl (by omega)) ?_)))))))
  refine GX.do 8 rfl (by kernel_rfl) (Do.copyT (lo := Int.toNat p1 + 1) (k := l0.length - Int.toNat p1) (El54) H40 rfl (fun _ => cutA_pos ((H40.rds (i := 0) rfl).isSome (by omega)) (by omega)) (by omega) rfl (Rds.fromE (lo := Int.toNat p1) PairD.len (H40.rds (i := 1) rfl) (by omega) (by omega) (by decide)) (by omega) (fun u hu => flat_one PairD.one _ u (List.mem_of_mem_take hu)) rfl ?_)
  intro w41 H42
  refine ⟨.inl (by kernel_rfl), ?_⟩
  refine GX.done (by kernel_rfl) (Fin.then (Wp.seq (Wp.region (Mv rfl rfl (As rfl rfl (WL.nil (Fin.then (Wp.ret (Fin.thenR (Fin.res (res1 rfl rfl) ?_))))))))))
  have H43 : Own w D w41 [row A30 (List.length (List.take (Int.toNat p1) l0 ++ (x2 :: List.drop (Int.toNat p1) l0))) c31 (List.flatMap PairD.cells (List.take (Int.toNat p1) l0 ++ (x2 :: List.drop (Int.toNat p1) l0))) 58 2, row A0 l0.length c0 (List.flatMap PairD.cells l0) 58 2, rowz A2 1 (List.flatMap PairD.cells ([x2])) 58 2] := H42.rowPart (by omega) (ins_grow (l := l0) (k2 := l0.length - Int.toNat p1) PairD.len (by omega) hz33 rfl rfl (by omega))
  have H44 := H43.pick [0] (by decide) rfl
  have e : slices_Insert_api_Pair_api_Pair l0 p1 x2 = (List.take (Int.toNat p1) l0 ++ (x2 :: List.drop (Int.toNat p1) l0)) := if_neg h21
  obtain rfl := e.symm.trans hr
  exact ⟨A30, c31, rfl, H44, (by omega)⟩
  refine Wp.cond0 rfl (decide_eq_false h28) (Wp.skip (Fin.then (Wp.seq (Wp.region ?_))))
  have hl45 : List.length (List.take (Int.toNat p1) l0 ++ (x2 :: List.drop (Int.toNat p1) l0)) = l0.length + 1 := by simp only [List.length_append, List.length_take, List.length_cons, List.length_drop]; omega
  obtain ⟨sp46, hsp47, H48⟩ := H.rowFull
  refine Mv rfl rfl (Mv rfl rfl (Mv rfl rfl (WL.val (v := .int .i64 ((l0.length + 1 : Nat) : Int)) rfl (Yl.int (e := IntKind.i64.wrap (((l0.length : Nat) : Int) + 1)) (Yl.kern rfl rfl (fun _ => by kernel_rfl)) (by rw [IntWalk.i64_in _ (by omega)]; omega)) (WL.val (v := .slice A0 (List.length (List.take (Int.toNat p1) l0 ++ (x2 :: List.drop (Int.toNat p1) l0))) c0) rfl (Yl.to (Yl.cutTo (El54) rfl rfl (by omega)) (congrArg (fun q => Value.slice A0 q c0) hl45.symm)) (As rfl rfl (WL.nil (Fin.then (Wp.seq (Wp.seq (Wp.region (Mv rfl rfl (Mv rfl rfl (WL.val (v := .int .i64 ((Int.toNat p1 : Nat) : Int)) rfl (Yl.int (e := p1) (Yl.move rfl) (by omega)) (Mv rfl rfl (WL.val (v := .int .i64 ((Int.toNat p1 + 1 : Nat) : Int)) rfl (Yl.int (e := IntKind.i64.wrap (((Int.toNat p1 : Nat) : Int) + 1)) (Yl.kern rfl rfl (fun _ => by kernel_rfl)) (by rw [IntWalk.i64_in _ (by omega)]; omega)) (WL.val (v := .slice (cutA A0 (Int.toNat p1 + 1) 2 c0) ((List.length (List.take (Int.toNat p1) l0 ++ (x2 :: List.drop (Int.toNat p1) l0))) - (Int.toNat p1 + 1)) (c0 - (Int.toNat p1 + 1))) rfl (Yl.cutFrom (El54) rfl rfl (by omega)) ?_))))))))))))))))
  have H49 := H48.pick [1, 0] (by decide) rfl
  refine WL.val (v := .bool false) rfl (Yl.overlapsNo (lo := Int.toNat p1 + 1) (run_callFunc_extern Try.func99 (by kernel_rfl) (by kernel_rfl) (by kernel_rfl) (e := Extern.SlicesOverlaps.overlaps #[54, 54] #[4]) (by kernel_rfl)) Try.underlying54 Try.sizeOf58 H49 (by decide) (by omega) rfl (cutA_pos ((H49.rds (i := 1) rfl).isSome (by omega)) (by omega))) (Kn (v := .bool true) rfl rfl rfl (fun _ => by kernel_rfl) (WL.nil (Fin.then (Wp.cond1 rfl rfl (Wp.seq ?_)))))
  have H51 := H49.drew
  refine Wp.drawnX [8] (fun W => ∃ L', Own w D W ([rowz A2 1 (List.flatMap PairD.cells ([x2])) 58 2, row A0 c0 c0 ((List.flatMap PairD.cells l0) ++ sp46) 58 2] ++ L')) (by kernel_rfl) (by kernel_rfl) (NoP.then (NoP.then NoP.base)) ⟨_, H51⟩ ?_
  revert H51
  generalize World.drew w = w50
  intro H51
  refine GX.take (v := .slice A0 (List.length (List.take (Int.toNat p1) l0 ++ (x2 :: List.drop (Int.toNat p1) l0))) c0) (rs := [[4]]) 0 rfl (by kernel_rfl) (fun _ _ => Yl.move rfl) (GX.take (v := .int .i64 ((Int.toNat p1 : Nat) : Int)) (rs := [[4, 3]]) 1 rfl (by kernel_rfl) (fun _ _ => Yl.int (e := p1) (Yl.move rfl) (by omega)) (GX.take (v := .int .i64 1) (rs := [[4, 3]]) 2 rfl (by kernel_rfl) (fun _ _ => Yl.move rfl) (GX.take (v := .int .i64 ((Int.toNat p1 + 1 : Nat) : Int)) (rs := [[4]]) 3 rfl (by kernel_rfl) (fun _ _ => Yl.int (e := IntKind.i64.wrap (((Int.toNat p1 : Nat) : Int) + 1)) (Yl.kern rfl rfl (fun _ => by kernel_rfl)) (by rw [IntWalk.i64_in _ (by omega)]; omega)) (GX.take (v := .slice (cutA A0 (Int.toNat p1 + 1) 2 c0) ((List.length (List.take (Int.toNat p1) l0 ++ (x2 :: List.drop (Int.toNat p1) l0))) - (Int.toNat p1 + 1)) (c0 - (Int.toNat p1 + 1))) (rs := [[]]) 4 rfl (by kernel_rfl) (fun _ _ => Yl.cutFrom (El54) rfl rfl (by omega)) (GX.take (v := .slice A0 (List.length (List.take (Int.toNat p1) l0 ++ (x2 :: List.drop (Int.toNat p1) l0))) c0) (rs := [[7]]) 5 rfl (by kernel_rfl) (fun _ _ => Yl.move rfl) (GX.take (v := .int .i64 ((Int.toNat p1 : Nat) : Int)) (rs := [[7]]) 6 rfl (by kernel_rfl) (fun _ _ => Yl.int (e := p1) (Yl.move rfl) (by omega)) (GX.take (v := .slice (cutA A0 (Int.toNat p1) 2 c0) ((List.length (List.take (Int.toNat p1) l0 ++ (x2 :: List.drop (Int.toNat p1) l0))) - (Int.toNat p1)) (c0 - (Int.toNat p1))) (rs := [[]]) 7 rfl (by kernel_rfl) (fun _ _ => Yl.cutFrom (El54) rfl rfl (by omega)) ?_)))))))
  have H52 := H51.pick [1, 0] (by decide) rfl
  refine GX.do 8 rfl (by kernel_rfl) (Do.copyT (lo := Int.toNat p1 + 1) (k := l0.length - Int.toNat p1) (El54) H52 rfl (fun _ => cutA_pos ((H52.rds (i := 0) rfl).isSome (by omega)) (by omega)) (by omega) rfl (Rds.cut (lo := Int.toNat p1) (hi := List.length (List.take (Int.toNat p1) l0 ++ (x2 :: List.drop (Int.toNat p1) l0))) (H52.rds (i := 0) rfl) (by omega) (by omega) (by omega)) (by omega) (fun u hu => flat_one PairD.one _ u (by rw [ins_news PairD.len (by omega) rfl (by omega)] at hu; exact hu)) rfl ?_)
  intro w53 H54
  refine ⟨.inl (by kernel_rfl), ?_⟩
  refine GX.done (by kernel_rfl) (Fin.then (Wp.seq (Wp.region (Mv rfl rfl (WL.val (v := .int .i64 ((Int.toNat p1 : Nat) : Int)) rfl (Yl.int (e := p1) (Yl.move rfl) (by omega)) (WL.val (v := .slice (cutA A0 (Int.toNat p1) 2 c0) ((List.length (List.take (Int.toNat p1) l0 ++ (x2 :: List.drop (Int.toNat p1) l0))) - (Int.toNat p1)) (c0 - (Int.toNat p1))) rfl (Yl.cutFrom (El54) rfl rfl (by omega)) (Mv rfl rfl ?_)))))))
  refine WL.do rfl (Do.copyT (lo := Int.toNat p1) (k := 1) (El54) H54 rfl (fun _ => cutA_pos ((H54.rds (i := 0) rfl).isSome (by omega)) (by omega)) (by omega) rfl (own_rd H54 (i := 1) rfl rowz_rds) (by omega) (fun u hu => flat_one PairD.one _ u (List.mem_of_mem_take hu)) rfl ?_)
  intro w55 H56
  refine WL.nil (Fin.then (Wp.seq (Wp.region (Mv rfl rfl (As rfl rfl (WL.nil (Fin.then (Wp.ret (Fin.thenR (Fin.res (res1 rfl rfl) ?_))))))))))
  have H57 : Own w D w55 [row A0 (List.length (List.take (Int.toNat p1) l0 ++ (x2 :: List.drop (Int.toNat p1) l0))) c0 (List.flatMap PairD.cells (List.take (Int.toNat p1) l0 ++ (x2 :: List.drop (Int.toNat p1) l0))) 58 2, rowz A2 1 (List.flatMap PairD.cells ([x2])) 58 2] := H56.rowPart (by omega) (ins_room (l := l0) (m := (List.length (List.take (Int.toNat p1) l0 ++ (x2 :: List.drop (Int.toNat p1) l0))) - Int.toNat p1) (k2 := l0.length - Int.toNat p1) PairD.len (by omega) (by rw [hsp47]; exact Nat.le_mul_of_pos_left 2 (by omega)) rfl rfl (by omega) (by omega))
  have H58 := H57.pick [0] (by decide) rfl
  have e : slices_Insert_api_Pair_api_Pair l0 p1 x2 = (List.take (Int.toNat p1) l0 ++ (x2 :: List.drop (Int.toNat p1) l0)) := if_neg h21
  obtain rfl := e.symm.trans hr
  exact ⟨A0, c0, rfl, H58, (by omega)⟩
def op_put (l0 : List PairD) (p1 : OpD) : (List PairD) × ResultT :=
  bnd (op_find l0 p1.xKey) fun yr32 => bnd (if yr32.2 = true then l0 else bnd (slices_Insert_api_Pair_api_Pair l0 yr32.1 (PairD.mk p1.xKey ([]))) fun yr54 => yr54) fun sJrbJ => bnd (List.getD sJrbJ (Int.toNat yr32.1) default) fun yx71 => ((List.set sJrbJ (Int.toNat yr32.1) (PairD.mk yx71.xKey p1.xValue)), ResultT.mk false ([]) (Ll.mk ([])))
set_option maxRecDepth 100000 in
theorem op_put_ok (w : World) (D : Nat → Prop) (A0 : Option Addr) (n0 c0 : Nat) (l0 : List PairD) (p1 : OpD) (r0 : List PairD) (r1 : ResultT) (H : Own w D w [row A0 n0 c0 (List.flatMap PairD.cells l0) 58 2]) (hn0 : n0 = l0.length) (hl0 : l0.length * 32 ≤ 211106232532992) (hh0 : (l0.length + 1) * 32 ≤ 211106232532992) (hr : op_put l0 p1 = (r0, r1)) :
    Calls Try.prog 73 #[.slice A0 n0 c0, .agg (OpD.cells p1).toArray] w (Ret fun v w' => ∃ (B0 : Option Addr) (b0 : Nat) (B1x0 : Option Addr) (b1x0 : Nat), v = .tuple #[.slice B0 r0.length b0, .agg #[.bool r1.xFound, .string ⟨List.toArray r1.xValue⟩, .slice B1x0 r1.xPairs.ls.length b1x0]] ∧ Own w D w' [row B0 r0.length b0 (List.flatMap PairD.cells r0) 58 2, row B1x0 r1.xPairs.ls.length b1x0 (List.flatMap PairD.cells r1.xPairs.ls) 58 2] ∧ (r0.length ≤ l0.length + 1)) := by
  subst hn0
  have hc0 := H.rowC (i := 0) rfl
  refine Calls.body (args := [.slice A0 l0.length c0, .agg (OpD.cells p1).toArray]) Try.func73 rfl rfl rfl ?_
  show Wp _ _ _ [(0, .slice A0 l0.length c0), (1, .agg (OpD.cells p1).toArray)] _ _
  refine Wp.seq (Wp.region ?_)
  refine WL.do rfl (Do.newP (cs := (OpD.cells p1)) (t := 74) H rfl rfl (fun _ => by kernel_rfl) ?_)
  intro g21 w22 H23
  refine As rfl rfl ?_
  refine WL.do rfl (Do.newP (cs := [.bool false, .string ⟨List.toArray ([])⟩, .slice none 0 0]) (t := 56) H23 rfl rfl (fun _ => by kernel_rfl) ?_)
  intro g24 w25 H26
  refine WL.nil (Fin.then (Wp.seq (Wp.region (Mv rfl rfl (Kn (v := .pointer (some ⟨g21, 1, none⟩)) rfl rfl rfl (fun _ => by kernel_rfl) (WL.val (v := .string ⟨List.toArray p1.xKey⟩) rfl (Yl.load rfl (Lds.one Try.isAgg9 (Cls.of (H26.cls (i := 1) rfl) rfl))) ?_))))))
  obtain ⟨⟨r32, r33⟩, hr34⟩ : ∃ q : Int × Bool, op_find l0 p1.xKey = q := ⟨_, rfl⟩
  obtain ⟨D27, HP28, ro29, bk30, rr31⟩ := Own.enter0 H26
  refine WL.do rfl (Do.call Try.call89 rfl (op_find_ok _ _ A0 l0.length c0 l0 p1.xKey r32 r33 HP28 (rr31 _ 2 _ rfl row_rds) rfl (by omega) hr34) ?_)
  rintro _ w35 ⟨rfl, HQ36, hk38, hk39⟩
  have H37 := bk30 _ _ HQ36
  replace hk38 : 0 ≤ r32 ∧ r32 ≤ ((l0.length : Nat) : Int) := hk38
  replace hk39 : Bool.toNat r33 = 0 ∨ r32 < ((l0.length : Nat) : Int) := hk39
  refine Mv rfl rfl (Kn (v := .int .i64 r32) rfl rfl rfl (fun _ => by kernel_rfl) (Kn (v := .bool r33) rfl rfl rfl (fun _ => by kernel_rfl) (As rfl rfl (As rfl rfl (WL.nil (Fin.then (Wp.seq (Wp.seq (Wp.region (Mv rfl rfl (Kn (v := .bool (!r33)) rfl rfl rfl (fun _ => by kernel_rfl) (WL.nil (Fin.then ?_)))))))))))))
  refine Wp.joinT (ι := (Option Addr) × Nat × (List PairD)) (fun i => [(0, .slice i.1 i.2.2.length i.2.1), (6, .int .i64 r32), (5, .pointer (some ⟨g24, 0, none⟩)), (4, .slice none 0 0), (3, .pointer (some ⟨g21, 0, none⟩))]) (fun (i : (Option Addr) × Nat × (List PairD)) w' => Own w D w' [blk g24 [.bool false, .string ⟨List.toArray ([])⟩, .slice none 0 0] 56, blk g21 (OpD.cells p1) 74, row i.1 i.2.2.length i.2.1 (List.flatMap PairD.cells i.2.2) 58 2] ∧ (i.2.2.length ≤ l0.length + 1 ∧ l0.length ≤ i.2.2.length ∧ r32 < ((i.2.2.length : Nat) : Int) ∧ (if r33 = true then l0 else bnd (slices_Insert_api_Pair_api_Pair l0 r32 (PairD.mk p1.xKey ([]))) fun yr54 => yr54) = i.2.2)) ?_ ?_
  rcases Bool.eq_false_or_eq_true (r33) with h43 | h43
  have h43t : Bool.toNat r33 = 1 := by rw [h43]; rfl
  refine Wp.cond0 rfl (congrArg not h43) (Wp.skip ?_)
  have H44 := H37.pick [0, 1, 2] (by decide) rfl
  exact Fin.join (A0, c0, l0) ⟨rfl, rfl, rfl, rfl, rfl, trivial⟩ ⟨H44, (show l0.length ≤ l0.length + 1 ∧ l0.length ≤ l0.length ∧ r32 < ((l0.length : Nat) : Int) ∧ (if r33 = true then l0 else bnd (slices_Insert_api_Pair_api_Pair l0 r32 (PairD.mk p1.xKey ([]))) fun yr54 => yr54) = l0 from ⟨by omega, by omega, by omega, if_pos h43⟩)⟩
  have h43t : Bool.toNat r33 = 0 := by rw [h43]; rfl
  refine Wp.cond1 rfl (congrArg not h43) (Wp.region (Mv rfl rfl (Mv rfl rfl (Kn (v := .pointer (some ⟨g21, 1, none⟩)) rfl rfl rfl (fun _ => by kernel_rfl) (WL.val (v := .string ⟨List.toArray p1.xKey⟩) rfl (Yl.load rfl (Lds.one Try.isAgg9 (Cls.of (H37.cls (i := 1) rfl) rfl))) (Kn (v := .agg #[.string ⟨List.toArray p1.xKey⟩, .string ⟨List.toArray ([])⟩]) rfl rfl rfl (fun _ => by kernel_rfl) ?_))))))
  refine WL.do rfl (Do.newRowZ (cs := [.string ⟨List.toArray p1.xKey⟩, .string ⟨List.toArray ([])⟩]) (t := 58) (sz := 2) (m := 1) H37 rfl rfl (fun _ => by kernel_rfl) rfl ?_)
  intro A45 w46 H47
  replace H47 : Own w D w46 [rowz A45 1 (List.flatMap PairD.cells ([(PairD.mk p1.xKey ([]))])) 58 2, blk g24 [.bool false, .string ⟨List.toArray ([])⟩, .slice none 0 0] 56, blk g21 (OpD.cells p1) 74, row A0 l0.length c0 (List.flatMap PairD.cells l0) 58 2] := H47
  have H48 := H47.pick [3, 0, 1, 2] (by decide) rfl
  obtain ⟨r54, hr55⟩ : ∃ q, slices_Insert_api_Pair_api_Pair l0 r32 (PairD.mk p1.xKey ([])) = q := ⟨_, rfl⟩
  obtain ⟨D49, HP50, ro51, bk52, rr53⟩ := Own.enter2 H48
  refine WL.do rfl (Do.call Try.call90 rfl (slices_Insert_api_Pair_api_Pair_ok _ _ A0 l0.length c0 l0 r32 A45 (PairD.mk p1.xKey ([])) r54 HP50 rfl (by omega) (by omega) hr55) ?_)
  rintro _ w56 ⟨A59, c60, rfl, HQ57, hk61⟩
  have H58 := bk52 _ _ HQ57
  have hb62 := H58.rowC (i := 0) rfl
  replace hk61 : r54.length = l0.length + 1 := hk61
  refine As rfl rfl (WL.nil ?_)
  have H63 := H58.pick [1, 2, 0] (by decide) rfl
  exact Fin.join (A59, c60, r54) ⟨rfl, rfl, rfl, rfl, rfl, trivial⟩ ⟨H63, (show r54.length ≤ l0.length + 1 ∧ l0.length ≤ r54.length ∧ r32 < ((r54.length : Nat) : Int) ∧ (if r33 = true then l0 else bnd (slices_Insert_api_Pair_api_Pair l0 r32 (PairD.mk p1.xKey ([]))) fun yr54 => yr54) = r54 from ⟨by omega, by omega, by omega, Eq.trans (ifF h43) (bnd_of hr55)⟩)⟩
  rintro ⟨A40, c41, l42⟩ w64 ⟨H65, hf66⟩
  show Wp _ _ _ [(0, .slice A40 l42.length c41), (6, .int .i64 r32), (5, .pointer (some ⟨g24, 0, none⟩)), (4, .slice none 0 0), (3, .pointer (some ⟨g21, 0, none⟩))] _ _
  replace H65 : Own w D w64 [blk g24 [.bool false, .string ⟨List.toArray ([])⟩, .slice none 0 0] 56, blk g21 (OpD.cells p1) 74, row A40 l42.length c41 (List.flatMap PairD.cells l42) 58 2] := H65
  replace hf66 : l42.length ≤ l0.length + 1 ∧ l0.length ≤ l42.length ∧ r32 < ((l42.length : Nat) : Int) ∧ (if r33 = true then l0 else bnd (slices_Insert_api_Pair_api_Pair l0 r32 (PairD.mk p1.xKey ([]))) fun yr54 => yr54) = l42 := hf66
  obtain ⟨hi68, hi69, hi70, hj67⟩ := hf66
  refine Wp.seq (Wp.region (Mv rfl rfl (WL.val (v := .int .i64 ((Int.toNat r32 : Nat) : Int)) rfl (Yl.int (e := r32) (Yl.move rfl) (by omega)) (Kn (v := .pointer (some ⟨g21, 2, none⟩)) rfl rfl rfl (fun _ => by kernel_rfl) (WL.val (v := .string ⟨List.toArray p1.xValue⟩) rfl (Yl.load rfl (Lds.one Try.isAgg9 (Cls.of (H65.cls (i := 1) rfl) rfl))) ?_)))))
  obtain ⟨x71, hx72⟩ := rds_at (ls := l42) (i := Int.toNat r32) PairD.len (by decide) (H65.rds (i := 2) rfl) (by first | omega | (simp; done) | (simp; omega))
  refine WL.val (v := .pointer (some ⟨ab A40, ao A40 + (Int.toNat r32) * 2, none⟩)) rfl (Yl.indexAddr (El54) rfl rfl ((H65.rds (i := 2) rfl).addr (i := Int.toNat r32) (by omega)) (by omega)) (Kn (v := .pointer (some ⟨ab A40, ao A40 + (Int.toNat r32) * 2 + 1, none⟩)) rfl rfl rfl (fun _ => by kernel_rfl) ?_)
  have H73 := H65.pick [2, 0, 1] (by decide) rfl
  refine WL.do0 (Do.storeRow (vs := [.string ⟨List.toArray p1.xValue⟩]) (o := (Int.toNat r32) * 2 + 1) (q := ao A40 + (Int.toNat r32) * 2 + 1) H73 rfl (by omega) rfl Try.sizeOf9 rfl rfl (Nat.le_of_ble_eq_true rfl) (store_fits PairD.len hx72 (Nat.le_of_ble_eq_true rfl)) (flat_set (y := (PairD.mk x71.xKey p1.xValue)) PairD.len rfl (Nat.le_of_ble_eq_true rfl) hx72) ?_)
  intro w74 H75
  refine WL.nil (Fin.then (Wp.seq ?_))
  have H76 := H75.pick [0, 1] (by decide) rfl
  refine Wp.region (Mv rfl rfl (Kn (v := .agg #[.bool false, .string ⟨List.toArray ([])⟩, .slice none 0 0]) rfl rfl rfl (fun _ => by kernel_rfl) (As rfl rfl ?_)))
  have H77 := H76.pick [1, 0] (by decide) rfl
  refine WL.do0 (Do.store (vs := [.bool false, .string ⟨List.toArray ([])⟩, .slice none 0 0]) (o := 0) H77 rfl rfl Try.sizeOf56 rfl rfl rfl rfl ?_)
  intro w78 H79
  refine WL.nil (Fin.then (Wp.ret (Fin.res (resN (vs := [.slice A40 l42.length c41, .agg #[.bool false, .string ⟨List.toArray ([])⟩, .slice none 0 0]]) rfl (ResV.tmp rfl (ResV.cell rfl (Lds.agg (cs := [.bool false, .string ⟨List.toArray ([])⟩, .slice none 0 0]) Try.isAgg56 Try.sizeOf56 ((H79.cls (i := 0) rfl).lit (k := 0) (m := 3) rfl)) ResV.nil)) (Nat.le_of_ble_eq_true rfl)) ?_)))
  have hn80 : l42.length = List.length (List.set l42 (Int.toNat r32) (PairD.mk x71.xKey p1.xValue)) := by first | omega | (simp only [List.length_set]; done) | (simp only [List.length_set, List.length_append, List.length_cons, List.length_nil, List.length_take, List.length_drop, List.length_replicate]; omega)
  have H81 : Own w D w78 [blk g24 [.bool false, .string ⟨List.toArray ([])⟩, .slice none 0 0] 56, row A40 (List.length (List.set l42 (Int.toNat r32) (PairD.mk x71.xKey p1.xValue))) c41 (List.flatMap PairD.cells (List.set l42 (Int.toNat r32) (PairD.mk x71.xKey p1.xValue))) 58 2] := by rw [← hn80]; exact H79
  have H82 : Own w D w78 [row none 0 0 (List.flatMap PairD.cells ([])) 58 2, blk g24 [.bool false, .string ⟨List.toArray ([])⟩, .slice none 0 0] 56, row A40 (List.length (List.set l42 (Int.toNat r32) (PairD.mk x71.xKey p1.xValue))) c41 (List.flatMap PairD.cells (List.set l42 (Int.toNat r32) (PairD.mk x71.xKey p1.xValue))) 58 2] := H81.free (row_nil 58 2)
  have H83 := H82.pick [2, 0] (by decide) rfl
  have e : op_put l0 p1 = ((List.set l42 (Int.toNat r32) (PairD.mk x71.xKey p1.xValue)), ResultT.mk false ([]) (Ll.mk ([]))) := Eq.trans (bnd_of hr34) (Eq.trans (bnd_of hj67) (bnd_of (getD_of hx72)))
  obtain ⟨rfl, rfl⟩ := pj2 (e.symm.trans hr)
  exact ⟨A40, c41, none, 0, (by first | rfl | (rw [← hn80]; done) | (rw [← hn80]; rfl)), H83, (by omega)⟩
def slices_Delete_api_Pair_api_Pair (l0 : List PairD) (p1 : Int) (p2 : Int) : (List PairD) :=
  if p1 = p2 then l0 else (List.take (Int.toNat p1) l0 ++ List.drop (Int.toNat p2) l0)
set_option maxRecDepth 100000 in
theorem slices_Delete_api_Pair_api_Pair_ok (w : World) (D : Nat → Prop) (A0 : Option Addr) (n0 c0 : Nat) (l0 : List PairD) (p1 : Int) (p2 : Int) (r0 : List PairD) (H : Own w D w [row A0 n0 c0 (List.flatMap PairD.cells l0) 58 2]) (hn0 : n0 = l0.length) (hl0 : l0.length * 32 ≤ 211106232532992) (hh0 : 0 ≤ p1 ∧ p1 ≤ p2 ∧ p2 ≤ ((l0.length : Nat) : Int)) (hr : slices_Delete_api_Pair_api_Pair l0 p1 p2 = r0) :
    Calls Try.prog 91 #[.slice A0 n0 c0, .int .i64 p1, .int .i64 p2] w (Ret fun v w' => ∃ (B0 : Option Addr) (b0 : Nat), v = .slice B0 r0.length b0 ∧ Own w D w' [row B0 r0.length b0 (List.flatMap PairD.cells r0) 58 2] ∧ (r0.length ≤ l0.length)) := by
  subst hn0
  have hc0 := H.rowC (i := 0) rfl
  refine Calls.body (args := [.slice A0 l0.length c0, .int .i64 p1, .int .i64 p2]) Try.func91 rfl rfl rfl ?_
  show Wp _ _ _ [(0, .slice A0 l0.length c0), (1, .int .i64 p1), (2, .int .i64 p2)] _ _
  refine Wp.seq (Wp.region (As rfl rfl (WL.nil (Fin.then (Wp.seq (Wp.region (Mv rfl rfl (WL.val (v := .int .i64 ((Int.toNat p1 : Nat) : Int)) rfl (Yl.int (e := p1) (Yl.move rfl) (by omega)) (WL.val (v := .int .i64 ((Int.toNat p2 : Nat) : Int)) rfl (Yl.int (e := p2) (Yl.move rfl) (by omega)) (Mv rfl rfl (Kn (v := .int .i64 ((l0.length : Nat) : Int)) rfl rfl rfl (fun _ => by kernel_rfl) ?_)))))))))))
  refine WL.do rfl (Do.cut4 (El54) rfl rfl rfl rfl (by omega) (by omega) (by omega) ?_)
  intro B21
  refine WL.nil (Fin.then (Wp.seq (Wp.seq (Wp.region (Mv rfl rfl (Mv rfl rfl (Kn (v := .bool (decide (p1 = p2))) rfl rfl rfl (fun _ => by kernel_rfl) (WL.nil (Fin.then ?_)))))))))
  by_cases h22 : p1 = p2
  refine Wp.cond1 rfl (decide_eq_true h22) (Wp.seq (Wp.region (Mv rfl rfl (As rfl rfl (WL.nil (Fin.then (Wp.ret (Fin.thenR (Fin.res (res1 rfl rfl) ?_)))))))))
  have H23 : Own w D w [row A0 l0.length c0 (List.flatMap PairD.cells l0) 58 2] := H.pick [0] (by decide) rfl
  have e : slices_Delete_api_Pair_api_Pair l0 p1 p2 = l0 := if_pos h22
  obtain rfl := e.symm.trans hr
  exact ⟨A0, c0, rfl, H23, (by omega)⟩
  refine Wp.cond0 rfl (decide_eq_false h22) (Wp.skip (Fin.then (Wp.seq (Wp.region (Mv rfl rfl (Kn (v := .int .i64 ((l0.length : Nat) : Int)) rfl rfl rfl (fun _ => by kernel_rfl) (As rfl rfl (WL.nil (Fin.then (Wp.seq ?_))))))))))
  have H25 := H.drew
  refine Wp.drawnX [6] (fun W => ∃ L', Own w D W ([row A0 l0.length c0 (List.flatMap PairD.cells l0) 58 2] ++ L')) (by kernel_rfl) (by kernel_rfl) (NoP.then NoP.base) ⟨_, H25⟩ ?_
  revert H25
  generalize World.drew w = w24
  intro H25
  refine GX.take (v := .slice A0 l0.length c0) (rs := [[2]]) 0 rfl (by kernel_rfl) (fun _ _ => Yl.move rfl) (GX.take (v := .int .i64 ((Int.toNat p1 : Nat) : Int)) (rs := [[2]]) 1 rfl (by kernel_rfl) (fun _ _ => Yl.int (e := p1) (Yl.move rfl) (by omega)) (GX.take (v := .slice A0 (Int.toNat p1) c0) (rs := [[]]) 2 rfl (by kernel_rfl) (fun _ _ => Yl.cutTo (El54) rfl rfl (by omega)) (GX.take (v := .slice A0 l0.length c0) (rs := [[5]]) 3 rfl (by kernel_rfl) (fun _ _ => Yl.move rfl) (GX.take (v := .int .i64 ((Int.toNat p2 : Nat) : Int)) (rs := [[5]]) 4 rfl (by kernel_rfl) (fun _ _ => Yl.int (e := p2) (Yl.move rfl) (by omega)) (GX.take (v := .slice (cutA A0 (Int.toNat p2) 2 c0) (l0.length - (Int.toNat p2)) (c0 - (Int.toNat p2))) (rs := [[]]) 5 rfl (by kernel_rfl) (fun _ _ => Yl.cutFrom (El54) rfl rfl (by omega)) ?_)))))
  have hl26 : List.length (List.take (Int.toNat p1) l0 ++ List.drop (Int.toNat p2) l0) = Int.toNat p1 + (l0.length - Int.toNat p2) := by simp only [List.length_append, List.length_take, List.length_drop]; omega
  have hp27 : Src Try.prog 2 54 (.slice (cutA A0 (Int.toNat p2) 2 c0) (l0.length - (Int.toNat p2)) (c0 - (Int.toNat p2))) (l0.length - Int.toNat p2) (List.flatMap PairD.cells (List.drop (Int.toNat p2) l0)) w24 := src_of Try.underlying54 (Rds.fromE (lo := Int.toNat p2) PairD.len (H25.rds (i := 0) rfl) (by omega) (by omega) (by decide)) (flat_one PairD.one (List.drop (Int.toNat p2) l0))
  obtain ⟨sp28, hsp29, H30⟩ := H25.rowFull
  refine GX.do 6 rfl (by kernel_rfl) (Do.appendRoom (k := Int.toNat p1) (m := l0.length - Int.toNat p2) (El54) H30 rfl rfl hp27 (by omega) (s := List.length (List.take (Int.toNat p1) l0 ++ List.drop (Int.toNat p2) l0)) (by omega) ?_)
  intro w31 H32
  refine ⟨.inl (by kernel_rfl), ?_⟩
  refine GX.takeA (v := .slice A0 (List.length (List.take (Int.toNat p1) l0 ++ List.drop (Int.toNat p2) l0)) c0) 7 rfl (by kernel_rfl) (fun _ => Yl.assign rfl) (GX.done (by kernel_rfl) (Fin.then (Wp.seq (Wp.region (Mv rfl rfl (Mv rfl rfl (Kn (v := .int .i64 ((List.length (List.take (Int.toNat p1) l0 ++ List.drop (Int.toNat p2) l0) : Nat) : Int)) rfl rfl rfl (fun _ => by kernel_rfl) (Mv rfl rfl (WL.val (v := .slice (cutA A0 (List.length (List.take (Int.toNat p1) l0 ++ List.drop (Int.toNat p2) l0)) 2 c0) (l0.length - (List.length (List.take (Int.toNat p1) l0 ++ List.drop (Int.toNat p2) l0))) (c0 - (List.length (List.take (Int.toNat p1) l0 ++ List.drop (Int.toNat p2) l0)))) rfl (Yl.cut (El54) rfl rfl rfl (by omega) (by omega)) ?_)))))))))
  refine WL.do0 (Do.clear (z0 := (.agg #[.string ⟨List.toArray ([])⟩, .string ⟨List.toArray ([])⟩])) (lo := List.length (List.take (Int.toNat p1) l0 ++ List.drop (Int.toNat p2) l0)) (nd := (l0.length - (List.length (List.take (Int.toNat p1) l0 ++ List.drop (Int.toNat p2) l0)))) (by kernel_rfl) rfl (El54) H32 rfl (fun _ => cutA_pos ((H32.rds (i := 0) rfl).isSome (by omega)) (by omega)) (by omega) ?_)
  intro w35 zs33 hz34 H36
  refine WL.nil (Fin.then (Wp.seq (Wp.region (Mv rfl rfl (As rfl rfl (WL.nil (Fin.then (Wp.ret (Fin.res (res1 rfl rfl) ?_)))))))))
  have H37 : Own w D w35 [row A0 (List.length (List.take (Int.toNat p1) l0 ++ List.drop (Int.toNat p2) l0)) c0 (List.flatMap PairD.cells (List.take (Int.toNat p1) l0 ++ List.drop (Int.toNat p2) l0)) 58 2] := H36.rowPart (by omega) (del_cells PairD.len (by omega) (by omega) rfl)
  have H38 := H37.pick [0] (by decide) rfl
  have e : slices_Delete_api_Pair_api_Pair l0 p1 p2 = (List.take (Int.toNat p1) l0 ++ List.drop (Int.toNat p2) l0) := if_neg h22
  obtain rfl := e.symm.trans hr
  exact ⟨A0, c0, rfl, H38, (by omega)⟩
def op_del (l0 : List PairD) (p1 : OpD) : (List PairD) × ResultT :=
  bnd (op_find l0 p1.xKey) fun yr32 => if yr32.2 = true then bnd (slices_Delete_api_Pair_api_Pair l0 yr32.1 (yr32.1 + 1)) fun yr48 => (yr48, ResultT.mk false ([]) (Ll.mk ([]))) else (l0, ResultT.mk false ([]) (Ll.mk ([])))
set_option maxRecDepth 100000 in
theorem op_del_ok (w : World) (D : Nat → Prop) (A0 : Option Addr) (n0 c0 : Nat) (l0 : List PairD) (p1 : OpD) (r0 : List PairD) (r1 : ResultT) (H : Own w D w [row A0 n0 c0 (List.flatMap PairD.cells l0) 58 2]) (hn0 : n0 = l0.length) (hl0 : l0.length * 32 ≤ 211106232532992) (hh0 : (l0.length + 1) * 32 ≤ 211106232532992) (hr : op_del l0 p1 = (r0, r1)) :
    Calls Try.prog 74 #[.slice A0 n0 c0, .agg (OpD.cells p1).toArray] w (Ret fun v w' => ∃ (B0 : Option Addr) (b0 : Nat) (B1x0 : Option Addr) (b1x0 : Nat), v = .tuple #[.slice B0 r0.length b0, .agg #[.bool r1.xFound, .string ⟨List.toArray r1.xValue⟩, .slice B1x0 r1.xPairs.ls.length b1x0]] ∧ Own w D w' [row B0 r0.length b0 (List.flatMap PairD.cells r0) 58 2, row B1x0 r1.xPairs.ls.length b1x0 (List.flatMap PairD.cells r1.xPairs.ls) 58 2] ∧ (r0.length ≤ l0.length + 1)) := by
  subst hn0
  have hc0 := H.rowC (i := 0) rfl
  refine Calls.body (args := [.slice A0 l0.length c0, .agg (OpD.cells p1).toArray]) Try.func74 rfl rfl rfl ?_
  show Wp _ _ _ [(0, .slice A0 l0.length c0), (1, .agg (OpD.cells p1).toArray)] _ _
  refine Wp.seq (Wp.region ?_)
  refine WL.do rfl (Do.newP (cs := (OpD.cells p1)) (t := 74) H rfl rfl (fun _ => by kernel_rfl) ?_)
  intro g21 w22 H23
  refine As rfl rfl ?_
  refine WL.do rfl (Do.newP (cs := [.bool false, .string ⟨List.toArray ([])⟩, .slice none 0 0]) (t := 56) H23 rfl rfl (fun _ => by kernel_rfl) ?_)
  intro g24 w25 H26
  refine WL.nil (Fin.then (Wp.seq (Wp.seq (Wp.region (Mv rfl rfl (Kn (v := .pointer (some ⟨g21, 1, none⟩)) rfl rfl rfl (fun _ => by kernel_rfl) (WL.val (v := .string ⟨List.toArray p1.xKey⟩) rfl (Yl.load rfl (Lds.one Try.isAgg9 (Cls.of (H26.cls (i := 1) rfl) rfl))) ?_)))))))
  obtain ⟨⟨r32, r33⟩, hr34⟩ : ∃ q : Int × Bool, op_find l0 p1.xKey = q := ⟨_, rfl⟩
  obtain ⟨D27, HP28, ro29, bk30, rr31⟩ := Own.enter0 H26
  refine WL.do rfl (Do.call Try.call89 rfl (op_find_ok _ _ A0 l0.length c0 l0 p1.xKey r32 r33 HP28 (rr31 _ 2 _ rfl row_rds) rfl (by omega) hr34) ?_)
  rintro _ w35 ⟨rfl, HQ36, hk38, hk39⟩
  have H37 := bk30 _ _ HQ36
  replace hk38 : 0 ≤ r32 ∧ r32 ≤ ((l0.length : Nat) : Int) := hk38
  replace hk39 : Bool.toNat r33 = 0 ∨ r32 < ((l0.length : Nat) : Int) := hk39
  refine Mv rfl rfl (Kn (v := .int .i64 r32) rfl rfl rfl (fun _ => by kernel_rfl) (Kn (v := .bool r33) rfl rfl rfl (fun _ => by kernel_rfl) (As rfl rfl (As rfl rfl (WL.nil (Fin.then (Wp.seq ?_)))))))
  have H40 := H37.pick [0, 2] (by decide) rfl
  refine Wp.region (Mv rfl rfl (WL.nil (Fin.then ?_)))
  rcases Bool.eq_false_or_eq_true (r33) with h41 | h41
  have h41t : Bool.toNat r33 = 1 := by rw [h41]; rfl
  refine Wp.cond1 rfl h41 (Wp.region (Mv rfl rfl (Mv rfl rfl (Mv rfl rfl (WL.val (v := .int .i64 (r32 + 1)) rfl (Yl.int (e := IntKind.i64.wrap (r32 + 1)) (Yl.kern rfl rfl (fun _ => by kernel_rfl)) (by rw [IntWalk.i64_in _ (by omega)])) ?_)))))
  have H42 := H40.pick [1, 0] (by decide) rfl
  obtain ⟨r48, hr49⟩ : ∃ q, slices_Delete_api_Pair_api_Pair l0 r32 (r32 + 1) = q := ⟨_, rfl⟩
  obtain ⟨D43, HP44, ro45, bk46, rr47⟩ := Own.enter1 H42
  refine WL.do rfl (Do.call Try.call91 rfl (slices_Delete_api_Pair_api_Pair_ok _ _ A0 l0.length c0 l0 r32 (r32 + 1) r48 HP44 rfl (by omega) (by omega) hr49) ?_)
  rintro _ w50 ⟨A53, c54, rfl, HQ51, hk55⟩
  have H52 := bk46 _ _ HQ51
  have hb56 := H52.rowC (i := 0) rfl
  replace hk55 : r48.length ≤ l0.length := hk55
  refine As rfl rfl (WL.nil (Fin.then (Wp.seq (Wp.region (Mv rfl rfl (Kn (v := .agg #[.bool false, .string ⟨List.toArray ([])⟩, .slice none 0 0]) rfl rfl rfl (fun _ => by kernel_rfl) (As rfl rfl ?_)))))))
  have H57 := H52.pick [1, 0] (by decide) rfl
  refine WL.do0 (Do.store (vs := [.bool false, .string ⟨List.toArray ([])⟩, .slice none 0 0]) (o := 0) H57 rfl rfl Try.sizeOf56 rfl rfl rfl rfl ?_)
  intro w58 H59
  refine WL.nil (Fin.then (Wp.ret (Fin.res (resN (vs := [.slice A53 r48.length c54, .agg #[.bool false, .string ⟨List.toArray ([])⟩, .slice none 0 0]]) rfl (ResV.tmp rfl (ResV.cell rfl (Lds.agg (cs := [.bool false, .string ⟨List.toArray ([])⟩, .slice none 0 0]) Try.isAgg56 Try.sizeOf56 ((H59.cls (i := 0) rfl).lit (k := 0) (m := 3) rfl)) ResV.nil)) (Nat.le_of_ble_eq_true rfl)) ?_)))
  have H60 : Own w D w58 [row none 0 0 (List.flatMap PairD.cells ([])) 58 2, blk g24 [.bool false, .string ⟨List.toArray ([])⟩, .slice none 0 0] 56, row A53 r48.length c54 (List.flatMap PairD.cells r48) 58 2] := H59.free (row_nil 58 2)
  have H61 := H60.pick [2, 0] (by decide) rfl
  have e : op_del l0 p1 = (r48, ResultT.mk false ([]) (Ll.mk ([]))) := Eq.trans (bnd_of hr34) (Eq.trans (if_pos h41) (bnd_of hr49))
  obtain ⟨rfl, rfl⟩ := pj2 (e.symm.trans hr)
  exact ⟨A53, c54, none, 0, rfl, H61, (by omega)⟩
  have h41t : Bool.toNat r33 = 0 := by rw [h41]; rfl
  refine Wp.cond0 rfl h41 (Wp.skip (Fin.then (Wp.seq (Wp.region (Mv rfl rfl (Kn (v := .agg #[.bool false, .string ⟨List.toArray ([])⟩, .slice none 0 0]) rfl rfl rfl (fun _ => by kernel_rfl) (As rfl rfl ?_)))))))
  refine WL.do0 (Do.store (vs := [.bool false, .string ⟨List.toArray ([])⟩, .slice none 0 0]) (o := 0) H40 rfl rfl Try.sizeOf56 rfl rfl rfl rfl ?_)
  intro w62 H63
  refine WL.nil (Fin.then (Wp.ret (Fin.res (resN (vs := [.slice A0 l0.length c0, .agg #[.bool false, .string ⟨List.toArray ([])⟩, .slice none 0 0]]) rfl (ResV.tmp rfl (ResV.cell rfl (Lds.agg (cs := [.bool false, .string ⟨List.toArray ([])⟩, .slice none 0 0]) Try.isAgg56 Try.sizeOf56 ((H63.cls (i := 0) rfl).lit (k := 0) (m := 3) rfl)) ResV.nil)) (Nat.le_of_ble_eq_true rfl)) ?_)))
  have H64 : Own w D w62 [row none 0 0 (List.flatMap PairD.cells ([])) 58 2, blk g24 [.bool false, .string ⟨List.toArray ([])⟩, .slice none 0 0] 56, row A0 l0.length c0 (List.flatMap PairD.cells l0) 58 2] := H63.free (row_nil 58 2)
  have H65 := H64.pick [2, 0] (by decide) rfl
  have e : op_del l0 p1 = (l0, ResultT.mk false ([]) (Ll.mk ([]))) := Eq.trans (bnd_of hr34) (ifF h41)
  obtain ⟨rfl, rfl⟩ := pj2 (e.symm.trans hr)
  exact ⟨A0, c0, none, 0, rfl, H65, (by omega)⟩
def op_bounds (l0 : List PairD) (p1 : RangeD) : Int × Int :=
  bnd (op_find l0 p1.xLo) fun yr29 => if p1.xHi = ([]) then (yr29.1, ((l0.length : Nat) : Int)) else bnd (op_find l0 p1.xHi) fun yr44 => (yr29.1, yr44.1)
set_option maxRecDepth 100000 in
theorem op_bounds_ok (w : World) (D : Nat → Prop) (A0 : Option Addr) (n0 c0 : Nat) (l0 : List PairD) (p1 : RangeD) (r0 : Int) (r1 : Int) (H : Own w D w []) (hx0 : Ro w D fun w' => Rds w' 2 A0 n0 (List.flatMap PairD.cells l0)) (hn0 : n0 = l0.length) (hl0 : l0.length * 32 ≤ 211106232532992) (hr : op_bounds l0 p1 = (r0, r1)) :
    Calls Try.prog 92 #[.slice A0 n0 c0, .agg (RangeD.cells p1).toArray] w (Ret fun v w' => v = .tuple #[.int .i64 r0, .int .i64 r1] ∧ Own w D w' [] ∧ (0 ≤ r0 ∧ r0 ≤ ((l0.length : Nat) : Int) ∧ 0 ≤ r1 ∧ r1 ≤ ((l0.length : Nat) : Int))) := by
  subst hn0
  refine Calls.body (args := [.slice A0 l0.length c0, .agg (RangeD.cells p1).toArray]) Try.func92 rfl rfl rfl ?_
  show Wp _ _ _ [(0, .slice A0 l0.length c0), (1, .agg (RangeD.cells p1).toArray)] _ _
  refine Wp.seq (Wp.region ?_)
  refine WL.do rfl (Do.newP (cs := (RangeD.cells p1)) (t := 24) H rfl rfl (fun _ => by kernel_rfl) ?_)
  intro g21 w22 H23
  refine As rfl rfl (As rfl rfl (WL.nil (Fin.then (Wp.seq (Wp.region (Mv rfl rfl (Kn (v := .pointer (some ⟨g21, 0, none⟩)) rfl rfl rfl (fun _ => by kernel_rfl) (WL.val (v := .string ⟨List.toArray p1.xLo⟩) rfl (Yl.load rfl (Lds.one Try.isAgg9 (Cls.of (H23.cls (i := 0) rfl) rfl))) ?_))))))))
  obtain ⟨⟨r29, r30⟩, hr31⟩ : ∃ q : Int × Bool, op_find l0 p1.xLo = q := ⟨_, rfl⟩
  obtain ⟨D24, HP25, ro26, bk27, rr28⟩ := Own.enter0 H23
  refine WL.do rfl (Do.call Try.call89 rfl (op_find_ok _ _ A0 l0.length c0 l0 p1.xLo r29 r30 HP25 (ro26 _ hx0) rfl (by omega) hr31) ?_)
  rintro _ w32 ⟨rfl, HQ33, hk35, hk36⟩
  have H34 := bk27 _ _ HQ33
  replace hk35 : 0 ≤ r29 ∧ r29 ≤ ((l0.length : Nat) : Int) := hk35
  replace hk36 : Bool.toNat r30 = 0 ∨ r29 < ((l0.length : Nat) : Int) := hk36
  refine Mv rfl rfl (Kn (v := .int .i64 r29) rfl rfl rfl (fun _ => by kernel_rfl) (Kn (v := .bool r30) rfl rfl rfl (fun _ => by kernel_rfl) (As rfl rfl (As rfl rfl (WL.nil (Fin.then (Wp.seq (Wp.seq (Wp.region (Kn (v := .pointer (some ⟨g21, 1, none⟩)) rfl rfl rfl (fun _ => by kernel_rfl) (WL.val (v := .string ⟨List.toArray p1.xHi⟩) rfl (Yl.load rfl (Lds.one Try.isAgg9 (Cls.of (H34.cls (i := 0) rfl) rfl))) (WL.val (v := .bool (decide (p1.xHi = ([])))) rfl (Yl.strEq rfl rfl) (WL.nil (Fin.then ?_))))))))))))))
  by_cases h37 : p1.xHi = ([])
  refine Wp.cond1 rfl (decide_eq_true h37) (Wp.seq (Wp.region (Mv rfl rfl (Mv rfl rfl (Kn (v := .int .i64 ((l0.length : Nat) : Int)) rfl rfl rfl (fun _ => by kernel_rfl) (As rfl rfl (As rfl rfl (WL.nil (Fin.then (Wp.ret (Fin.thenR (Fin.res (res2 rfl rfl rfl) ?_))))))))))))
  have H38 := H34.pick [] (by decide) rfl
  have e : op_bounds l0 p1 = (r29, ((l0.length : Nat) : Int)) := Eq.trans (bnd_of hr31) (if_pos h37)
  obtain ⟨rfl, rfl⟩ := pj2 (e.symm.trans hr)
  exact ⟨rfl, H38, (by omega)⟩
  refine Wp.cond0 rfl (decide_eq_false h37) (Wp.skip (Fin.then (Wp.seq (Wp.region (Mv rfl rfl (Kn (v := .pointer (some ⟨g21, 1, none⟩)) rfl rfl rfl (fun _ => by kernel_rfl) (WL.val (v := .string ⟨List.toArray p1.xHi⟩) rfl (Yl.load rfl (Lds.one Try.isAgg9 (Cls.of (H34.cls (i := 0) rfl) rfl))) ?_)))))))
  obtain ⟨⟨r44, r45⟩, hr46⟩ : ∃ q : Int × Bool, op_find l0 p1.xHi = q := ⟨_, rfl⟩
  obtain ⟨D39, HP40, ro41, bk42, rr43⟩ := Own.enter0 H34
  refine WL.do rfl (Do.call Try.call89 rfl (op_find_ok _ _ A0 l0.length c0 l0 p1.xHi r44 r45 HP40 (ro41 _ hx0) rfl (by omega) hr46) ?_)
  rintro _ w47 ⟨rfl, HQ48, hk50, hk51⟩
  have H49 := bk42 _ _ HQ48
  replace hk50 : 0 ≤ r44 ∧ r44 ≤ ((l0.length : Nat) : Int) := hk50
  replace hk51 : Bool.toNat r45 = 0 ∨ r44 < ((l0.length : Nat) : Int) := hk51
  refine Mv rfl rfl (Kn (v := .int .i64 r44) rfl rfl rfl (fun _ => by kernel_rfl) (Kn (v := .bool r45) rfl rfl rfl (fun _ => by kernel_rfl) (As rfl rfl (As rfl rfl (WL.nil (Fin.then (Wp.seq (Wp.region (Mv rfl rfl (Mv rfl rfl (As rfl rfl (As rfl rfl (WL.nil (Fin.then (Wp.ret (Fin.res (res2 rfl rfl rfl) ?_))))))))))))))))
  have H52 := H49.pick [] (by decide) rfl
  have e : op_bounds l0 p1 = (r29, r44) := Eq.trans (bnd_of hr31) (Eq.trans (if_neg h37) (bnd_of hr46))
  obtain ⟨rfl, rfl⟩ := pj2 (e.symm.trans hr)
  exact ⟨rfl, H52, (by omega)⟩
def slices_Clone_api_Pair_api_Pair (l0 : List PairD) : (List PairD) :=
  l0
set_option maxRecDepth 100000 in
theorem slices_Clone_api_Pair_api_Pair_ok (w : World) (D : Nat → Prop) (A0 : Option Addr) (n0 c0 : Nat) (l0 : List PairD) (r0 : List PairD) (H : Own w D w []) (hx0 : Ro w D fun w' => Rds w' 2 A0 n0 (List.flatMap PairD.cells l0)) (hn0 : n0 = l0.length) (hl0 : l0.length * 32 ≤ 211106232532992) (hr : slices_Clone_api_Pair_api_Pair l0 = r0) :
    Calls Try.prog 53 #[.slice A0 n0 c0] w (Ret fun v w' => ∃ (B0 : Option Addr) (b0 : Nat), v = .slice B0 r0.length b0 ∧ Own w D w' [row B0 r0.length b0 (List.flatMap PairD.cells r0) 58 2]) := by
  subst hn0
  refine Calls.body (args := [.slice A0 l0.length c0]) Try.func53 rfl rfl rfl ?_
  show Wp _ _ _ [(0, .slice A0 l0.length c0)] _ _
  refine Wp.seq (Wp.region (As rfl rfl (WL.nil (Fin.then (Wp.seq (Wp.seq (Wp.region (Mv rfl rfl (WL.val (v := .bool (Option.isNone A0)) rfl (Yl.sliceNil Try.underlying54 rfl rfl) (WL.nil (Fin.then ?_)))))))))))
  rcases Bool.eq_false_or_eq_true (Option.isNone A0) with h21 | h21
  obtain rfl : l0 = [] := rds_none (enc := PairD.cells) (H.ro hx0) h21
  refine Wp.cond1 rfl h21 (Wp.seq (Wp.region (As rfl rfl (WL.nil (Fin.then (Wp.ret (Fin.thenR (Fin.res (res1 rfl rfl) ?_))))))))
  have H22 : Own w D w [row none 0 0 (List.flatMap PairD.cells ([])) 58 2] := H.free (row_nil 58 2)
  have H23 := H22.pick [0] (by decide) rfl
  have e : slices_Clone_api_Pair_api_Pair ([]) = ([]) := rfl
  obtain rfl := e.symm.trans hr
  exact ⟨none, 0, rfl, H23⟩
  refine Wp.cond0 rfl h21 (Wp.skip (Fin.then (Wp.seq (Wp.region ?_))))
  refine WL.do rfl (Do.newRow (cs := []) (t := 58) (sz := 2) (m := 0) H rfl rfl (fun _ => by kernel_rfl) rfl (by decide) ?_)
  intro A24 w25 H26
  replace H26 : Own w D w25 [row A24 0 0 (List.flatMap PairD.cells ([])) 58 2] := H26
  refine Mv rfl rfl ?_
  refine WL.do rfl (Do.appendW (k := 0) (m := l0.length) (El54) H26 rfl rfl (src_of Try.underlying54 (H26.ro hx0) (flat_one PairD.one l0)) rfl (by omega) (s := l0.length) (by omega) rfl ?_)
  intro A27 c28 w29 H30
  refine As rfl rfl (WL.nil (Fin.then (Wp.ret (Fin.res (res1 rfl rfl) ?_))))
  have H31 := H30.pick [0] (by decide) rfl
  have e : slices_Clone_api_Pair_api_Pair l0 = l0 := rfl
  obtain rfl := e.symm.trans hr
  exact ⟨A27, c28, rfl, H31⟩
def op_scan (l0 : List PairD) (p1 : OpD) : (List PairD) × ResultT :=
  bnd (op_spanRange p1) fun yr32 => bnd (op_bounds l0 yr32) fun yr42 => (l0, ResultT.mk false ([]) (Ll.mk (List.take ((Int.toNat (min yr42.2 (yr42.1 + p1.xMost))) - (Int.toNat yr42.1)) (List.drop (Int.toNat yr42.1) l0))))
set_option maxRecDepth 100000 in
theorem op_scan_ok (w : World) (D : Nat → Prop) (A0 : Option Addr) (n0 c0 : Nat) (l0 : List PairD) (p1 : OpD) (r0 : List PairD) (r1 : ResultT) (H : Own w D w [row A0 n0 c0 (List.flatMap PairD.cells l0) 58 2]) (hn0 : n0 = l0.length) (hl0 : l0.length * 32 ≤ 211106232532992) (hh0 : (l0.length + 1) * 32 ≤ 211106232532992) (hh1 : (op_bounds l0 (op_spanRange p1)).1 ≤ (op_bounds l0 (op_spanRange p1)).2) (hh2 : 1 ≤ p1.xMost ∧ p1.xMost ≤ 4) (hr : op_scan l0 p1 = (r0, r1)) :
    Calls Try.prog 78 #[.slice A0 n0 c0, .agg (OpD.cells p1).toArray] w (Ret fun v w' => ∃ (B0 : Option Addr) (b0 : Nat) (B1x0 : Option Addr) (b1x0 : Nat), v = .tuple #[.slice B0 r0.length b0, .agg #[.bool r1.xFound, .string ⟨List.toArray r1.xValue⟩, .slice B1x0 r1.xPairs.ls.length b1x0]] ∧ Own w D w' [row B0 r0.length b0 (List.flatMap PairD.cells r0) 58 2, row B1x0 r1.xPairs.ls.length b1x0 (List.flatMap PairD.cells r1.xPairs.ls) 58 2] ∧ (r0.length ≤ l0.length + 1)) := by
  subst hn0
  have hc0 := H.rowC (i := 0) rfl
  refine Calls.body (args := [.slice A0 l0.length c0, .agg (OpD.cells p1).toArray]) Try.func78 rfl rfl rfl ?_
  show Wp _ _ _ [(0, .slice A0 l0.length c0), (1, .agg (OpD.cells p1).toArray)] _ _
  refine Wp.seq (Wp.region ?_)
  refine WL.do rfl (Do.newP (cs := (OpD.cells p1)) (t := 74) H rfl rfl (fun _ => by kernel_rfl) ?_)
  intro g21 w22 H23
  refine As rfl rfl ?_
  refine WL.do rfl (Do.newP (cs := [.bool false, .string ⟨List.toArray ([])⟩, .slice none 0 0]) (t := 56) H23 rfl rfl (fun _ => by kernel_rfl) ?_)
  intro g24 w25 H26
  refine WL.nil (Fin.then (Wp.seq (Wp.region (Mv rfl rfl (WL.val (v := .agg (OpD.cells p1).toArray) rfl (Yl.load rfl (Lds.agg (cs := (OpD.cells p1)) Try.isAgg74 Try.sizeOf74 ((H26.cls (i := 1) rfl).lit (k := 0) (m := 6) rfl))) ?_)))))
  obtain ⟨r32, hr33⟩ : ∃ q, op_spanRange p1 = q := ⟨_, rfl⟩
  obtain ⟨D27, HP28, ro29, bk30, rr31⟩ := Own.enter0 H26
  refine WL.do rfl (Do.call Try.call77 rfl (op_spanRange_ok _ _ p1 r32 HP28 hr33) ?_)
  rintro _ w34 ⟨rfl, HQ35⟩
  have H36 := bk30 _ _ HQ35
  obtain ⟨⟨r42, r43⟩, hr44⟩ : ∃ q : Int × Int, op_bounds l0 r32 = q := ⟨_, rfl⟩
  obtain ⟨D37, HP38, ro39, bk40, rr41⟩ := Own.enter0 H36
  refine WL.do rfl (Do.call Try.call92 rfl (op_bounds_ok _ _ A0 l0.length c0 l0 r32 r42 r43 HP38 (rr41 _ 2 _ rfl row_rds) rfl (by omega) hr44) ?_)
  rintro _ w45 ⟨rfl, HQ46, hk48⟩
  have H47 := bk40 _ _ HQ46
  replace hk48 : 0 ≤ r42 ∧ r42 ≤ ((l0.length : Nat) : Int) ∧ 0 ≤ r43 ∧ r43 ≤ ((l0.length : Nat) : Int) := hk48
  have hz49 : r42 ≤ r43 := by
    have q := hh1
    rw [hr33, hr44] at q
    exact q
  refine Mv rfl rfl (Kn (v := .int .i64 r42) rfl rfl rfl (fun _ => by kernel_rfl) (Kn (v := .int .i64 r43) rfl rfl rfl (fun _ => by kernel_rfl) (As rfl rfl (As rfl rfl (WL.nil (Fin.then (Wp.seq (Wp.region (Mv rfl rfl (Mv rfl rfl (Kn (v := .pointer (some ⟨g21, 5, none⟩)) rfl rfl rfl (fun _ => by kernel_rfl) (WL.val (v := .int .i64 p1.xMost) rfl (Yl.load rfl (Lds.one Try.isAgg3 (Cls.of (H47.cls (i := 1) rfl) rfl))) (WL.val (v := .int .i64 (r42 + p1.xMost)) rfl (Yl.int (e := IntKind.i64.wrap (r42 + p1.xMost)) (Yl.kern rfl rfl (fun _ => by kernel_rfl)) (by rw [IntWalk.i64_in _ (by omega)])) (WL.val (v := .int .i64 (min r43 (r42 + p1.xMost))) rfl (Yl.int (e := if r42 + p1.xMost < r43 then r42 + p1.xMost else r43) (Yl.kern rfl rfl (fun _ => by kernel_rfl)) (by omega)) (As rfl rfl (WL.nil (Fin.then (Wp.seq ?_))))))))))))))))))
  have H50 := H47.pick [0, 2] (by decide) rfl
  refine Wp.region (Mv rfl rfl (Mv rfl rfl (WL.val (v := .int .i64 ((Int.toNat r42 : Nat) : Int)) rfl (Yl.int (e := r42) (Yl.move rfl) (by omega)) (WL.val (v := .int .i64 ((Int.toNat (min r43 (r42 + p1.xMost)) : Nat) : Int)) rfl (Yl.int (e := min r43 (r42 + p1.xMost)) (Yl.move rfl) (by omega)) (WL.val (v := .slice (cutA A0 (Int.toNat r42) 2 c0) ((Int.toNat (min r43 (r42 + p1.xMost))) - (Int.toNat r42)) (c0 - (Int.toNat r42))) rfl (Yl.cut (El54) rfl rfl rfl (by omega) (by omega)) ?_)))))
  have hz56 : (Int.toNat (min r43 (r42 + p1.xMost))) - (Int.toNat r42) = List.length (List.take ((Int.toNat (min r43 (r42 + p1.xMost))) - (Int.toNat r42)) (List.drop (Int.toNat r42) l0)) := (by first | rfl | omega | (simp only [List.length_append, List.length_cons, List.length_nil, List.length_take, List.length_drop, List.length_set, List.length_replicate, List.length_map] <;> omega))
  obtain ⟨D51, HP52, ro53, bk54, rr55⟩ := Own.enter0 H50
  refine WL.do rfl (Do.call Try.call53 rfl (slices_Clone_api_Pair_api_Pair_ok _ _ (cutA A0 (Int.toNat r42) 2 c0) ((Int.toNat (min r43 (r42 + p1.xMost))) - (Int.toNat r42)) (c0 - (Int.toNat r42)) (List.take ((Int.toNat (min r43 (r42 + p1.xMost))) - (Int.toNat r42)) (List.drop (Int.toNat r42) l0)) (List.take ((Int.toNat (min r43 (r42 + p1.xMost))) - (Int.toNat r42)) (List.drop (Int.toNat r42) l0)) HP52 (fun w9 h9 => Rds.cutE (lo := Int.toNat r42) (hi := Int.toNat (min r43 (r42 + p1.xMost))) PairD.len ((rr55 _ 1 _ rfl row_rds) w9 h9) (by omega) (by omega) (by omega)) (by first | rfl | omega | (simp only [List.length_append, List.length_cons, List.length_nil, List.length_take, List.length_drop, List.length_set, List.length_replicate, List.length_map] <;> omega)) (by first | omega | (simp only [List.length_append, List.length_cons, List.length_nil, List.length_take, List.length_drop, List.length_set]; omega)) rfl) ?_)
  rintro _ w57 ⟨A60, c61, rfl, HQ58⟩
  have H59 := bk54 _ _ HQ58
  have hb62 := H59.rowC (i := 0) rfl
  refine Kn (v := .agg #[.bool false, .string ⟨List.toArray ([])⟩, .slice A60 (List.length (List.take ((Int.toNat (min r43 (r42 + p1.xMost))) - (Int.toNat r42)) (List.drop (Int.toNat r42) l0))) c61]) rfl rfl rfl (fun _ => by kernel_rfl) (As rfl rfl ?_)
  have H63 := H59.pick [1, 0, 2] (by decide) rfl
  refine WL.do0 (Do.store (vs := [.bool false, .string ⟨List.toArray ([])⟩, .slice A60 (List.length (List.take ((Int.toNat (min r43 (r42 + p1.xMost))) - (Int.toNat r42)) (List.drop (Int.toNat r42) l0))) c61]) (o := 0) H63 rfl rfl Try.sizeOf56 rfl rfl rfl rfl ?_)
  intro w64 H65
  replace H65 : Own w D w64 [blk g24 [.bool false, .string ⟨List.toArray ([])⟩, .slice A60 (List.length (List.take ((Int.toNat (min r43 (r42 + p1.xMost))) - (Int.toNat r42)) (List.drop (Int.toNat r42) l0))) c61] 56, row A60 (List.length (List.take ((Int.toNat (min r43 (r42 + p1.xMost))) - (Int.toNat r42)) (List.drop (Int.toNat r42) l0))) c61 (List.flatMap PairD.cells (List.take ((Int.toNat (min r43 (r42 + p1.xMost))) - (Int.toNat r42)) (List.drop (Int.toNat r42) l0))) 58 2, row A0 l0.length c0 (List.flatMap PairD.cells l0) 58 2] := H65
  refine WL.nil (Fin.then (Wp.ret (Fin.res (resN (vs := [.slice A0 l0.length c0, .agg #[.bool false, .string ⟨List.toArray ([])⟩, .slice A60 (List.length (List.take ((Int.toNat (min r43 (r42 + p1.xMost))) - (Int.toNat r42)) (List.drop (Int.toNat r42) l0))) c61]]) rfl (ResV.tmp rfl (ResV.cell rfl (Lds.agg (cs := [.bool false, .string ⟨List.toArray ([])⟩, .slice A60 (List.length (List.take ((Int.toNat (min r43 (r42 + p1.xMost))) - (Int.toNat r42)) (List.drop (Int.toNat r42) l0))) c61]) Try.isAgg56 Try.sizeOf56 ((H65.cls (i := 0) rfl).lit (k := 0) (m := 3) rfl)) ResV.nil)) (Nat.le_of_ble_eq_true rfl)) ?_)))
  have H66 := H65.pick [2, 1] (by decide) rfl
  have e : op_scan l0 p1 = (l0, ResultT.mk false ([]) (Ll.mk (List.take ((Int.toNat (min r43 (r42 + p1.xMost))) - (Int.toNat r42)) (List.drop (Int.toNat r42) l0)))) := Eq.trans (bnd_of hr33) (bnd_of hr44)
  obtain ⟨rfl, rfl⟩ := pj2 (e.symm.trans hr)
  exact ⟨A0, c0, A60, c61, rfl, H66, (by omega)⟩
def op_wipe (l0 : List PairD) (p1 : OpD) : (List PairD) × ResultT :=
  bnd (op_spanRange p1) fun yr32 => bnd (op_bounds l0 yr32) fun yr42 => bnd (slices_Delete_api_Pair_api_Pair l0 yr42.1 yr42.2) fun yr57 => (yr57, ResultT.mk false ([]) (Ll.mk ([])))
set_option maxRecDepth 100000 in
theorem op_wipe_ok (w : World) (D : Nat → Prop) (A0 : Option Addr) (n0 c0 : Nat) (l0 : List PairD) (p1 : OpD) (r0 : List PairD) (r1 : ResultT) (H : Own w D w [row A0 n0 c0 (List.flatMap PairD.cells l0) 58 2]) (hn0 : n0 = l0.length) (hl0 : l0.length * 32 ≤ 211106232532992) (hh0 : (l0.length + 1) * 32 ≤ 211106232532992) (hh1 : (op_bounds l0 (op_spanRange p1)).1 ≤ (op_bounds l0 (op_spanRange p1)).2) (hr : op_wipe l0 p1 = (r0, r1)) :
    Calls Try.prog 81 #[.slice A0 n0 c0, .agg (OpD.cells p1).toArray] w (Ret fun v w' => ∃ (B0 : Option Addr) (b0 : Nat) (B1x0 : Option Addr) (b1x0 : Nat), v = .tuple #[.slice B0 r0.length b0, .agg #[.bool r1.xFound, .string ⟨List.toArray r1.xValue⟩, .slice B1x0 r1.xPairs.ls.length b1x0]] ∧ Own w D w' [row B0 r0.length b0 (List.flatMap PairD.cells r0) 58 2, row B1x0 r1.xPairs.ls.length b1x0 (List.flatMap PairD.cells r1.xPairs.ls) 58 2] ∧ (r0.length ≤ l0.length + 1)) := by
  subst hn0
  have hc0 := H.rowC (i := 0) rfl
  refine Calls.body (args := [.slice A0 l0.length c0, .agg (OpD.cells p1).toArray]) Try.func81 rfl rfl rfl ?_
  show Wp _ _ _ [(0, .slice A0 l0.length c0), (1, .agg (OpD.cells p1).toArray)] _ _
  refine Wp.seq (Wp.region ?_)
  refine WL.do rfl (Do.newP (cs := (OpD.cells p1)) (t := 74) H rfl rfl (fun _ => by kernel_rfl) ?_)
  intro g21 w22 H23
  refine As rfl rfl ?_
  refine WL.do rfl (Do.newP (cs := [.bool false, .string ⟨List.toArray ([])⟩, .slice none 0 0]) (t := 56) H23 rfl rfl (fun _ => by kernel_rfl) ?_)
  intro g24 w25 H26
  refine WL.nil (Fin.then (Wp.seq (Wp.region (Mv rfl rfl (WL.val (v := .agg (OpD.cells p1).toArray) rfl (Yl.load rfl (Lds.agg (cs := (OpD.cells p1)) Try.isAgg74 Try.sizeOf74 ((H26.cls (i := 1) rfl).lit (k := 0) (m := 6) rfl))) ?_)))))
  obtain ⟨r32, hr33⟩ : ∃ q, op_spanRange p1 = q := ⟨_, rfl⟩
  obtain ⟨D27, HP28, ro29, bk30, rr31⟩ := Own.enter0 H26
  refine WL.do rfl (Do.call Try.call77 rfl (op_spanRange_ok _ _ p1 r32 HP28 hr33) ?_)
  rintro _ w34 ⟨rfl, HQ35⟩
  have H36 := bk30 _ _ HQ35
  obtain ⟨⟨r42, r43⟩, hr44⟩ : ∃ q : Int × Int, op_bounds l0 r32 = q := ⟨_, rfl⟩
  obtain ⟨D37, HP38, ro39, bk40, rr41⟩ := Own.enter0 H36
  refine WL.do rfl (Do.call Try.call92 rfl (op_bounds_ok _ _ A0 l0.length c0 l0 r32 r42 r43 HP38 (rr41 _ 2 _ rfl row_rds) rfl (by omega) hr44) ?_)
  rintro _ w45 ⟨rfl, HQ46, hk48⟩
  have H47 := bk40 _ _ HQ46
  replace hk48 : 0 ≤ r42 ∧ r42 ≤ ((l0.length : Nat) : Int) ∧ 0 ≤ r43 ∧ r43 ≤ ((l0.length : Nat) : Int) := hk48
  have hz49 : r42 ≤ r43 := by
    have q := hh1
    rw [hr33, hr44] at q
    exact q
  refine Mv rfl rfl (Kn (v := .int .i64 r42) rfl rfl rfl (fun _ => by kernel_rfl) (Kn (v := .int .i64 r43) rfl rfl rfl (fun _ => by kernel_rfl) (As rfl rfl (As rfl rfl (WL.nil (Fin.then (Wp.seq ?_)))))))
  have H50 := H47.pick [0, 2] (by decide) rfl
  refine Wp.region (Mv rfl rfl (Mv rfl rfl (Mv rfl rfl ?_)))
  have H51 := H50.pick [1, 0] (by decide) rfl
  obtain ⟨r57, hr58⟩ : ∃ q, slices_Delete_api_Pair_api_Pair l0 r42 r43 = q := ⟨_, rfl⟩
  obtain ⟨D52, HP53, ro54, bk55, rr56⟩ := Own.enter1 H51
  refine WL.do rfl (Do.call Try.call91 rfl (slices_Delete_api_Pair_api_Pair_ok _ _ A0 l0.length c0 l0 r42 r43 r57 HP53 rfl (by omega) (by omega) hr58) ?_)
  rintro _ w59 ⟨A62, c63, rfl, HQ60, hk64⟩
  have H61 := bk55 _ _ HQ60
  have hb65 := H61.rowC (i := 0) rfl
  replace hk64 : r57.length ≤ l0.length := hk64
  refine Kn (v := .agg #[.bool false, .string ⟨List.toArray ([])⟩, .slice none 0 0]) rfl rfl rfl (fun _ => by kernel_rfl) (As rfl rfl ?_)
  have H66 := H61.pick [1, 0] (by decide) rfl
  refine WL.do0 (Do.store (vs := [.bool false, .string ⟨List.toArray ([])⟩, .slice none 0 0]) (o := 0) H66 rfl rfl Try.sizeOf56 rfl rfl rfl rfl ?_)
  intro w67 H68
  refine WL.nil (Fin.then (Wp.ret (Fin.res (resN (vs := [.slice A62 r57.length c63, .agg #[.bool false, .string ⟨List.toArray ([])⟩, .slice none 0 0]]) rfl (ResV.tmp rfl (ResV.cell rfl (Lds.agg (cs := [.bool false, .string ⟨List.toArray ([])⟩, .slice none 0 0]) Try.isAgg56 Try.sizeOf56 ((H68.cls (i := 0) rfl).lit (k := 0) (m := 3) rfl)) ResV.nil)) (Nat.le_of_ble_eq_true rfl)) ?_)))
  have H69 : Own w D w67 [row none 0 0 (List.flatMap PairD.cells ([])) 58 2, blk g24 [.bool false, .string ⟨List.toArray ([])⟩, .slice none 0 0] 56, row A62 r57.length c63 (List.flatMap PairD.cells r57) 58 2] := H68.free (row_nil 58 2)
  have H70 := H69.pick [2, 0] (by decide) rfl
  have e : op_wipe l0 p1 = (r57, ResultT.mk false ([]) (Ll.mk ([]))) := Eq.trans (bnd_of hr33) (Eq.trans (bnd_of hr44) (bnd_of hr58))
  obtain ⟨rfl, rfl⟩ := pj2 (e.symm.trans hr)
  exact ⟨A62, c63, none, 0, rfl, H70, (by omega)⟩
end Go.Proofs.Ytcjjblkgbfaapaa
