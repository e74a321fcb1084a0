/-
  node: the reference's bytes.
-/
import Derived.Test.YtfkkipmdnjfocaaGreatDr
namespace Go.Proofs.YtfkkipmdnjfocaaGreat
open Go.RowKit
set_option linter.unusedVariables false
set_option linter.unusedSectionVars false
set_option linter.unusedSimpArgs false

def r01_Num (p0 : Nat) : (List UInt8) :=
  if p0 < 128 then [(UInt8.ofNat p0)] else bnd (r01_Num (p0 / 128)) fun yr34 => ([((UInt8.ofNat (p0 % 128)) + (128 : UInt8))] ++ yr34)
  termination_by p0
  decreasing_by all_goals omega

theorem r01_Num_eq (p0 : Nat) : r01_Num p0 = if ((p0 : Nat) : Int) < 128 then [(UInt8.ofNat p0)] else bnd (r01_Num (p0 / 128)) fun yr34 => ([((UInt8.ofNat (p0 % 128)) + (128 : UInt8))] ++ yr34) := by
  rw [r01_Num.eq_1 p0]
  by_cases h9 : p0 < 128
  · rw [if_pos h9, if_pos (by omega)]
  · rw [if_neg h9, if_neg (by omega)]

set_option maxRecDepth 100000 in
theorem r01_Num_ok (w : World) (D : Nat → Prop) (p0 : Nat) (r0 : List UInt8) (H : Own w D w []) (hh0 : p0 ≤ 18446744073709551615) (hr : r01_Num p0 = r0) :
    Calls Tryz.prog 41 #[.int .u64 ((p0 : Nat) : Int)] w (Ret fun v w' => ∃ (B0 : Option Addr) (b0 : Nat), v = .slice B0 r0.length b0 ∧ Own w D w' [row B0 r0.length b0 (List.flatMap eB r0) 5 1] ∧ (RecN p0 r0.length) ∧ (1 ≤ r0.length ∧ r0.length ≤ 10)) := by
  obtain ⟨pm, hpm⟩ : ∃ q, q = p0 := ⟨_, rfl⟩
  have self_ : ∀ (w : World) (D : Nat → Prop) (p0 : Nat) (r0 : List UInt8) (H : Own w D w []) (hh0 : p0 ≤ 18446744073709551615) (hh_ : p0 < pm) (hr : r01_Num p0 = r0), Calls Tryz.prog 41 #[.int .u64 ((p0 : Nat) : Int)] w (Ret fun v w' => ∃ (B0 : Option Addr) (b0 : Nat), v = .slice B0 r0.length b0 ∧ Own w D w' [row B0 r0.length b0 (List.flatMap eB r0) 5 1] ∧ (RecN p0 r0.length) ∧ (1 ≤ r0.length ∧ r0.length ≤ 10)) := fun w D p0 r0 H hh0 hh_ hr => r01_Num_ok w D p0 r0 H hh0 hr
  refine Calls.body (args := [.int .u64 ((p0 : Nat) : Int)]) Tryz.func41 rfl rfl rfl ?_
  show Wp _ _ _ [(0, .int .u64 ((p0 : Nat) : Int))] _ _
  refine Wp.seq (Wp.region (As rfl rfl (WL.nil (Fin.then (Wp.seq (Wp.seq (Wp.region (Mv rfl rfl (Kn (v := .bool (decide (((p0 : Nat) : Int) < 128))) rfl rfl rfl (fun _ => by kernel_rfl) (WL.nil (Fin.then ?_)))))))))))
  by_cases h21 : ((p0 : Nat) : Int) < 128
  refine Wp.cond1 rfl (decide_eq_true h21) (Wp.seq (Wp.region (Mv rfl rfl (WL.val (v := .int .u8 (((UInt8.ofNat p0).toNat : Nat) : Int)) rfl (Yl.int (e := IntKind.u8.wrap ((p0 : Nat) : Int)) (Yl.kern rfl rfl (fun _ => by kernel_rfl)) (u8_wrap _)) ?_))))
  refine WL.do rfl (Do.newRow (cs := [.int .u8 (((UInt8.ofNat p0).toNat : Nat) : Int)]) (t := 5) (sz := 1) (m := 1) H rfl rfl (fun _ => by kernel_rfl) rfl (by decide) ?_)
  intro A22 w23 H24
  replace H24 : Own w D w23 [row A22 1 1 (List.flatMap eB ([(UInt8.ofNat p0)])) 5 1] := H24
  refine As rfl rfl (WL.nil (Fin.then (Wp.ret (Fin.thenR (Fin.res (res1 rfl rfl) ?_)))))
  have H25 : Own w D w23 [row A22 1 1 (List.flatMap eB ([(UInt8.ofNat p0)])) 5 1] := H24.pick [0] (by decide) rfl
  have e : r01_Num p0 = [(UInt8.ofNat p0)] := Eq.trans (r01_Num_eq _) (if_pos h21)
  obtain rfl := e.symm.trans hr
  exact ⟨A22, 1, rfl, H25, (by first | exact RecN.one rfl | exact RecN.step (by omega) (by assumption) (by simp only [List.length_append, List.length_cons, List.length_nil]; omega)), (by first | (exact RecN.ten (RecN.one rfl) hh0) | (exact RecN.ten (RecN.step (by omega) (by assumption) (by simp only [List.length_append, List.length_cons, List.length_nil]; omega)) hh0))⟩
  refine Wp.cond0 rfl (decide_eq_false h21) (Wp.skip (Fin.then (Wp.seq (Wp.region (Mv rfl rfl (WL.val (v := .int .u64 ((p0 % 128 : Nat) : Int)) rfl (Yl.int (e := Int.tmod ((p0 : Nat) : Int) 128) (Yl.kern rfl rfl (fun _ => by kernel_rfl)) (tmodN _ _)) (WL.val (v := .int .u8 (((UInt8.ofNat (p0 % 128)).toNat : Nat) : Int)) rfl (Yl.int (e := IntKind.u8.wrap ((p0 % 128 : Nat) : Int)) (Yl.kern rfl rfl (fun _ => by kernel_rfl)) (u8_wrap _)) (WL.val (v := .int .u8 ((((UInt8.ofNat (p0 % 128)) + (128 : UInt8)).toNat : Nat) : Int)) rfl (Yl.int (e := IntKind.u8.wrap ((((UInt8.ofNat (p0 % 128)).toNat : Nat) : Int) + 128)) (Yl.kern rfl rfl (fun _ => by kernel_rfl)) (u8_add (UInt8.ofNat (p0 % 128)) (128 : UInt8))) ?_))))))))
  refine WL.do rfl (Do.newRow (cs := [.int .u8 ((((UInt8.ofNat (p0 % 128)) + (128 : UInt8)).toNat : Nat) : Int)]) (t := 5) (sz := 1) (m := 1) H rfl rfl (fun _ => by kernel_rfl) rfl (by decide) ?_)
  intro A26 w27 H28
  replace H28 : Own w D w27 [row A26 1 1 (List.flatMap eB ([((UInt8.ofNat (p0 % 128)) + (128 : UInt8))])) 5 1] := H28
  refine Mv rfl rfl (WL.val (v := .int .u64 ((p0 / 128 : Nat) : Int)) rfl (Yl.int (e := IntKind.u64.wrap (Int.tdiv ((p0 : Nat) : Int) 128)) (Yl.kern rfl rfl (fun _ => by kernel_rfl)) (by rw [show (128 : Int) = ((128 : Nat) : Int) from rfl, tdivN, IntWalk.u64_in _ (by omega)])) ?_)
  obtain ⟨r34, hr35⟩ : ∃ q, r01_Num (p0 / 128) = q := ⟨_, rfl⟩
  obtain ⟨D29, HP30, ro31, bk32, rr33⟩ := Own.enter0 H28
  refine WL.do rfl (Do.call Tryz.call41 rfl (self_ _ _ (p0 / 128) r34 HP30 (by omega) (by omega) hr35) ?_)
  rintro _ w36 ⟨A39, c40, rfl, HQ37, hk41, hk42⟩
  have H38 : Own w D w36 [row A39 r34.length c40 (List.flatMap eB r34) 5 1, row A26 1 1 (List.flatMap eB ([((UInt8.ofNat (p0 % 128)) + (128 : UInt8))])) 5 1] := bk32 _ _ HQ37
  have hb43 := H38.rowC (i := 0) rfl
  replace hk41 : RecN (p0 / 128) r34.length := hk41
  replace hk42 : 1 ≤ r34.length ∧ r34.length ≤ 10 := hk42
  have H44 : Own w D w36 [row A26 1 1 (List.flatMap eB ([((UInt8.ofNat (p0 % 128)) + (128 : UInt8))])) 5 1, row A39 r34.length c40 (List.flatMap eB r34) 5 1] := H38.pick [1, 0] (by decide) rfl
  refine WL.do rfl (Do.appendW (k := 1) (m := r34.length) (El29) H44 rfl rfl (src_of Tryz.underlying29 (H44.rds (i := 1) rfl) (flat_one eB_one r34)) rfl (by omega) (s := List.length ([((UInt8.ofNat (p0 % 128)) + (128 : UInt8))] ++ r34)) (by first | omega | (simp only [List.length_append, List.length_cons, List.length_nil] <;> omega)) (List.flatMap_append).symm ?_)
  intro A45 c46 w47 H48
  have hl49 : List.length ([((UInt8.ofNat (p0 % 128)) + (128 : UInt8))] ++ r34) = 1 + r34.length := by simp only [List.length_append, List.length_cons, List.length_nil]
  refine As rfl rfl (WL.nil (Fin.then (Wp.ret (Fin.res (res1 rfl rfl) ?_))))
  have H50 : Own w D w47 [row A45 (List.length ([((UInt8.ofNat (p0 % 128)) + (128 : UInt8))] ++ r34)) c46 (List.flatMap eB ([((UInt8.ofNat (p0 % 128)) + (128 : UInt8))] ++ r34)) 5 1] := H48.pick [0] (by decide) rfl
  have e : r01_Num p0 = ([((UInt8.ofNat (p0 % 128)) + (128 : UInt8))] ++ r34) := Eq.trans (r01_Num_eq _) (Eq.trans (if_neg h21) (bnd_of hr35))
  obtain rfl := e.symm.trans hr
  exact ⟨A45, c46, rfl, H50, (by first | exact RecN.one rfl | exact RecN.step (by omega) (by assumption) (by simp only [List.length_append, List.length_cons, List.length_nil]; omega)), (by first | (exact RecN.ten (RecN.one rfl) hh0) | (exact RecN.ten (RecN.step (by omega) (by assumption) (by simp only [List.length_append, List.length_cons, List.length_nil]; omega)) hh0))⟩
  termination_by p0
  decreasing_by all_goals omega

def r01_Text (p0 : List UInt8) : (List UInt8) :=
  bnd (r01_Num p0.length) fun yr26 => (yr26 ++ p0)

set_option maxRecDepth 100000 in
theorem r01_Text_ok (w : World) (D : Nat → Prop) (p0 : List UInt8) (r0 : List UInt8) (H : Own w D w []) (hh0 : p0.length ≤ 140737488351232) (hr : r01_Text p0 = r0) :
    Calls Tryz.prog 68 #[.string ⟨List.toArray p0⟩] w (Ret fun v w' => ∃ (B0 : Option Addr) (b0 : Nat), v = .slice B0 r0.length b0 ∧ Own w D w' [row B0 r0.length b0 (List.flatMap eB r0) 5 1] ∧ (r0.length ≤ p0.length + 10)) := by
  refine Calls.body (args := [.string ⟨List.toArray p0⟩]) Tryz.func68 rfl rfl rfl ?_
  show Wp _ _ _ [(0, .string ⟨List.toArray p0⟩)] _ _
  refine Wp.seq (Wp.region (As rfl rfl (WL.nil (Fin.then (Wp.seq (Wp.region (Mv rfl rfl (Kn (v := .int .i64 ((p0.length : Nat) : Int)) rfl rfl rfl (fun _ => by kernel_rfl) (WL.val (v := .int .u64 ((p0.length : Nat) : Int)) rfl (Yl.int (e := IntKind.u64.wrap ((p0.length : Nat) : Int)) (Yl.kern rfl rfl (fun _ => by kernel_rfl)) (IntWalk.u64_in _ (by omega))) ?_)))))))))
  obtain ⟨r26, hr27⟩ : ∃ q, r01_Num p0.length = q := ⟨_, rfl⟩
  obtain ⟨D21, HP22, ro23, bk24, rr25⟩ := Own.enter0 H
  refine WL.do rfl (Do.call Tryz.call41 rfl (r01_Num_ok _ _ p0.length r26 HP22 (by omega) hr27) ?_)
  rintro _ w28 ⟨A31, c32, rfl, HQ29, hk33, hk34⟩
  have H30 := bk24 _ _ HQ29
  have hb35 := H30.rowC (i := 0) rfl
  replace hk33 : RecN p0.length r26.length := hk33
  replace hk34 : 1 ≤ r26.length ∧ r26.length ≤ 10 := hk34
  refine Mv rfl rfl ?_
  refine WL.do rfl (Do.appendW (k := r26.length) (m := p0.length) (El29) H30 rfl rfl (src_str Tryz.underlying9 rfl) rfl (by omega) (s := List.length (r26 ++ p0)) (by first | omega | (simp only [List.length_append, List.length_cons, List.length_nil] <;> omega)) (List.flatMap_append).symm ?_)
  intro A36 c37 w38 H39
  have hl40 : List.length (r26 ++ p0) = r26.length + p0.length := by simp only [List.length_append, List.length_cons, List.length_nil]
  refine As rfl rfl (WL.nil (Fin.then (Wp.ret (Fin.res (res1 rfl rfl) ?_))))
  have H41 := H39.pick [0] (by decide) rfl
  have e : r01_Text p0 = (r26 ++ p0) := bnd_of hr27
  obtain rfl := e.symm.trans hr
  exact ⟨A36, c37, rfl, H41, (by first | omega | (simp only [List.length_cons, List.length_nil, List.length_append]; omega))⟩

def r13_num (l0 : List UInt8) (p1 : Int) : (List UInt8) :=
  bnd (r01_Num (Int.toNat (IntKind.u64.wrap p1))) fun yr27 => (l0 ++ yr27)

set_option maxRecDepth 100000 in
theorem r13_num_ok (w : World) (D : Nat → Prop) (A0 : Option Addr) (n0 c0 : Nat) (l0 : List UInt8) (p1 : Int) (r0 : List UInt8) (H : Own w D w [row A0 n0 c0 (List.flatMap eB l0) 5 1]) (hn0 : n0 = l0.length) (hl0 : l0.length * 1 ≤ 211106232532992) (hh0 : l0.length ≤ 140737488351232) (hr : r13_num l0 p1 = r0) :
    Calls Tryz.prog 39 #[.slice A0 n0 c0, .int .i64 p1] w (Ret fun v w' => ∃ (B0 : Option Addr) (b0 : Nat), v = .slice B0 r0.length b0 ∧ Own w D w' [row B0 r0.length b0 (List.flatMap eB r0) 5 1] ∧ (r0.length ≤ l0.length + 10)) := by
  subst hn0
  have hc0 := H.rowC (i := 0) rfl
  refine Calls.body (args := [.slice A0 l0.length c0, .int .i64 p1]) Tryz.func39 rfl rfl rfl ?_
  show Wp _ _ _ [(0, .slice A0 l0.length c0), (1, .int .i64 p1)] _ _
  refine Wp.seq (Wp.region (As rfl rfl (WL.nil (Fin.then (Wp.seq (Wp.region (Mv rfl rfl (Mv rfl rfl ?_))))))))
  have hz21 : Int.toNat (IntKind.u64.wrap p1) ≤ 18446744073709551615 := wrapN_u64 _
  refine WL.val (v := .int .u64 ((Int.toNat (IntKind.u64.wrap p1) : Nat) : Int)) rfl (Yl.int (e := IntKind.u64.wrap p1) (Yl.kern rfl rfl (fun _ => by kernel_rfl)) (wrap_nat_u64 _)) ?_
  obtain ⟨r27, hr28⟩ : ∃ q, r01_Num (Int.toNat (IntKind.u64.wrap p1)) = q := ⟨_, rfl⟩
  obtain ⟨D22, HP23, ro24, bk25, rr26⟩ := Own.enter0 H
  refine WL.do rfl (Do.call Tryz.call41 rfl (r01_Num_ok _ _ (Int.toNat (IntKind.u64.wrap p1)) r27 HP23 (by omega) hr28) ?_)
  rintro _ w29 ⟨A32, c33, rfl, HQ30, hk34, hk35⟩
  have H31 := bk25 _ _ HQ30
  have hb36 := H31.rowC (i := 0) rfl
  replace hk34 : RecN (Int.toNat (IntKind.u64.wrap p1)) r27.length := hk34
  replace hk35 : 1 ≤ r27.length ∧ r27.length ≤ 10 := hk35
  have H37 := H31.pick [1, 0] (by decide) rfl
  refine WL.do rfl (Do.appendW (k := l0.length) (m := r27.length) (El29) H37 rfl rfl (src_of Tryz.underlying29 (H37.rds (i := 1) rfl) (flat_one eB_one r27)) rfl (by omega) (s := List.length (l0 ++ r27)) (by first | omega | (simp only [List.length_append, List.length_cons, List.length_nil] <;> omega)) (List.flatMap_append).symm ?_)
  intro A38 c39 w40 H41
  have hl42 : List.length (l0 ++ r27) = l0.length + r27.length := by simp only [List.length_append, List.length_cons, List.length_nil]
  refine As rfl rfl (WL.nil (Fin.then (Wp.ret (Fin.res (res1 rfl rfl) ?_))))
  have H43 := H41.pick [0] (by decide) rfl
  have e : r13_num l0 p1 = (l0 ++ r27) := bnd_of hr28
  obtain rfl := e.symm.trans hr
  exact ⟨A38, c39, rfl, H43, (by first | omega | (simp only [List.length_cons, List.length_nil, List.length_append]; omega))⟩

def r13_text (l0 : List UInt8) (p1 : List UInt8) : (List UInt8) :=
  bnd (r01_Text p1) fun yr26 => (l0 ++ yr26)

set_option maxRecDepth 100000 in
theorem r13_text_ok (w : World) (D : Nat → Prop) (A0 : Option Addr) (n0 c0 : Nat) (l0 : List UInt8) (p1 : List UInt8) (r0 : List UInt8) (H : Own w D w [row A0 n0 c0 (List.flatMap eB l0) 5 1]) (hn0 : n0 = l0.length) (hl0 : l0.length * 1 ≤ 211106232532992) (hh0 : l0.length ≤ 140737488351232 ∧ p1.length ≤ 1048576) (hr : r13_text l0 p1 = r0) :
    Calls Tryz.prog 40 #[.slice A0 n0 c0, .string ⟨List.toArray p1⟩] w (Ret fun v w' => ∃ (B0 : Option Addr) (b0 : Nat), v = .slice B0 r0.length b0 ∧ Own w D w' [row B0 r0.length b0 (List.flatMap eB r0) 5 1] ∧ (r0.length ≤ l0.length + p1.length + 10)) := by
  subst hn0
  have hc0 := H.rowC (i := 0) rfl
  refine Calls.body (args := [.slice A0 l0.length c0, .string ⟨List.toArray p1⟩]) Tryz.func40 rfl rfl rfl ?_
  show Wp _ _ _ [(0, .slice A0 l0.length c0), (1, .string ⟨List.toArray p1⟩)] _ _
  refine Wp.seq (Wp.region (As rfl rfl (WL.nil (Fin.then (Wp.seq (Wp.region (Mv rfl rfl (Mv rfl rfl ?_))))))))
  obtain ⟨r26, hr27⟩ : ∃ q, r01_Text p1 = q := ⟨_, rfl⟩
  obtain ⟨D21, HP22, ro23, bk24, rr25⟩ := Own.enter0 H
  refine WL.do rfl (Do.call Tryz.call68 rfl (r01_Text_ok _ _ p1 r26 HP22 (by omega) hr27) ?_)
  rintro _ w28 ⟨A31, c32, rfl, HQ29, hk33⟩
  have H30 := bk24 _ _ HQ29
  have hb34 := H30.rowC (i := 0) rfl
  replace hk33 : r26.length ≤ p1.length + 10 := hk33
  have H35 := H30.pick [1, 0] (by decide) rfl
  refine WL.do rfl (Do.appendW (k := l0.length) (m := r26.length) (El29) H35 rfl rfl (src_of Tryz.underlying29 (H35.rds (i := 1) rfl) (flat_one eB_one r26)) rfl (by omega) (s := List.length (l0 ++ r26)) (by first | omega | (simp only [List.length_append, List.length_cons, List.length_nil] <;> omega)) (List.flatMap_append).symm ?_)
  intro A36 c37 w38 H39
  have hl40 : List.length (l0 ++ r26) = l0.length + r26.length := by simp only [List.length_append, List.length_cons, List.length_nil]
  refine As rfl rfl (WL.nil (Fin.then (Wp.ret (Fin.res (res1 rfl rfl) ?_))))
  have H41 := H39.pick [0] (by decide) rfl
  have e : r13_text l0 p1 = (l0 ++ r26) := bnd_of hr27
  obtain rfl := e.symm.trans hr
  exact ⟨A36, c37, rfl, H41, (by first | omega | (simp only [List.length_cons, List.length_nil, List.length_append]; omega))⟩

def r13_whole_L0 : List PairD → List UInt8 → (List UInt8)
  | [], l44 => l44
  | x55 :: q46, l44 => bnd (r13_text l44 x55.xKey) fun yr72 => bnd (r13_text yr72 x55.xValue) fun yr88 => r13_whole_L0 q46 yr88

def r13_whole_L1 (p0 : NodeT) : List Int → List UInt8 → (List UInt8)
  | [], l121 => l121
  | x132 :: q123, l121 => bnd (r13_num l121 x132) fun yr141 => r13_whole_L1 p0 q123 yr141

def r13_whole_L2 (p0 : NodeT) : List (List UInt8) → List UInt8 → (List UInt8)
  | [], l154 => l154
  | x165 :: q156, l154 => bnd (r13_text l154 x165) fun yr175 => r13_whole_L2 p0 q156 yr175

def r13_whole_L4 : List EntryD → List UInt8 → (List UInt8)
  | [], l222 => l222
  | x233 :: q224, l222 => bnd (r01_Num x233.xSeq) fun yr247 => if x233.xOp.xKind = 2 then bnd (r13_text ((l222 ++ yr247) ++ [(u8I x233.xOp.xKind)]) x233.xOp.xKey) fun yr282 => bnd (r13_text yr282 x233.xOp.xValue) fun yr298 => r13_whole_L4 q224 yr298 else if x233.xOp.xKind = 3 then bnd (r13_text ((l222 ++ yr247) ++ [(u8I x233.xOp.xKind)]) x233.xOp.xKey) fun yr315 => r13_whole_L4 q224 yr315 else bnd (r13_text ((l222 ++ yr247) ++ [(u8I x233.xOp.xKind)]) x233.xOp.xLo) fun yr334 => bnd (r13_text yr334 x233.xOp.xHi) fun yr350 => r13_whole_L4 q224 yr350

def r13_whole_L3 : List (Ll EntryD) → List UInt8 → (List UInt8)
  | [], l188 => l188
  | x199 :: q190, l188 => bnd (r13_num l188 ((x199.ls.length : Nat) : Int)) fun yr211 => bnd (r13_whole_L4 x199.ls yr211) fun sLrfbLaLaLsbL => r13_whole_L3 q190 sLrfbLaLaLsbL

def r13_whole (p0 : NodeT) : (List UInt8) :=
  if p0.xLeaf = true then bnd (r13_num ([1]) ((p0.xPairs.ls.length : Nat) : Int)) fun yr33 => bnd (r13_whole_L0 p0.xPairs.ls yr33) fun sLrtbL => sLrtbL else bnd (r13_num ([2]) ((p0.xKids.ls.length : Nat) : Int)) fun yr109 => bnd (r13_whole_L1 p0 p0.xKids.ls yr109) fun sLrfbL => bnd (r13_whole_L2 p0 p0.xPivots.ls sLrfbL) fun sLrfbLaL => bnd (r13_whole_L3 p0.xBuffers.ls sLrfbLaL) fun sLrfbLaLaL => sLrfbLaLaL

set_option maxRecDepth 100000 in
theorem r13_whole_ok (w : World) (D : Nat → Prop) (p0 : NodeT) (A0x0 : Option Addr) (n0x0 c0x0 : Nat) (A0x1 : Option Addr) (n0x1 c0x1 : Nat) (A0x2 : Option Addr) (n0x2 c0x2 : Nat) (A0x3 : Option Addr) (n0x3 c0x3 : Nat) (d0x3 : List Row46D) (r0 : List UInt8) (H : Own w D w []) (hn0x0 : n0x0 = p0.xPairs.ls.length) (hx0x0 : Ro w D fun w' => Rds w' 2 A0x0 p0.xPairs.ls.length (List.flatMap PairD.cells p0.xPairs.ls)) (hb0x0 : p0.xPairs.ls.length ≤ c0x0 ∧ p0.xPairs.ls.length ≤ 9223372036854775807) (hn0x1 : n0x1 = p0.xKids.ls.length) (hx0x1 : Ro w D fun w' => Rds w' 1 A0x1 p0.xKids.ls.length (List.flatMap (eI .i64) p0.xKids.ls)) (hb0x1 : p0.xKids.ls.length ≤ c0x1 ∧ p0.xKids.ls.length ≤ 9223372036854775807) (hn0x2 : n0x2 = p0.xPivots.ls.length) (hx0x2 : Ro w D fun w' => Rds w' 1 A0x2 p0.xPivots.ls.length (List.flatMap eS p0.xPivots.ls)) (hb0x2 : p0.xPivots.ls.length ≤ c0x2 ∧ p0.xPivots.ls.length ≤ 9223372036854775807) (hd0x3 : List.map Row46D.abs d0x3 = p0.xBuffers.ls) (hn0x3 : n0x3 = p0.xBuffers.ls.length) (hx0x3 : Ro w D fun w' => Rds w' 1 A0x3 p0.xBuffers.ls.length (List.flatMap (Sv.enc (β := EntryD)) d0x3)) (hb0x3 : p0.xBuffers.ls.length ≤ c0x3 ∧ p0.xBuffers.ls.length ≤ 9223372036854775807) (hm0x3 : ∀ x ∈ d0x3, Ro w D (fun w' => Rds w' 7 x.A x.ls.length (List.flatMap EntryD.cells x.ls)) ∧ x.ls.length ≤ 9223372036854775807) (hh0 : ((p0.xPairs.ls.length ≤ 1048576 ∧ ∀ x ∈ p0.xPairs.ls, x.xKey.length ≤ 1048576 ∧ x.xValue.length ≤ 1048576) ∧ (∀ x ∈ p0.xPivots.ls, x.length ≤ 1048576) ∧ ∀ b ∈ p0.xBuffers.ls, b.ls.length ≤ 1048576 ∧ ∀ x ∈ b.ls, x.xSeq ≤ 18446744073709551615 ∧ x.xOp.xKey.length ≤ 1048576 ∧ x.xOp.xValue.length ≤ 1048576 ∧ x.xOp.xLo.length ≤ 1048576 ∧ x.xOp.xHi.length ≤ 1048576)) (hh1 : p0.xLeaf = true ∨ (p0.xKids.ls.length ≤ 8 ∧ p0.xPivots.ls.length ≤ 8 ∧ p0.xBuffers.ls.length ≤ 8)) (hr : r13_whole p0 = r0) :
    Calls Tryz.prog 22 #[.agg #[.bool p0.xLeaf, .slice A0x0 n0x0 c0x0, .slice A0x1 n0x1 c0x1, .slice A0x2 n0x2 c0x2, .slice A0x3 n0x3 c0x3]] w (Ret fun v w' => ∃ (B0 : Option Addr) (b0 : Nat), v = .slice B0 r0.length b0 ∧ Own w D w' [row B0 r0.length b0 (List.flatMap eB r0) 5 1] ∧ (r0.length ≤ 35184372088832)) := by
  subst hn0x0 hn0x1 hn0x2 hn0x3
  have hdl0x3 := abs_len hd0x3
  have hh0a := hh0.1.1
  refine Calls.body (args := [.agg #[.bool p0.xLeaf, .slice A0x0 p0.xPairs.ls.length c0x0, .slice A0x1 p0.xKids.ls.length c0x1, .slice A0x2 p0.xPivots.ls.length c0x2, .slice A0x3 p0.xBuffers.ls.length c0x3]]) Tryz.func22 rfl rfl rfl ?_
  show Wp _ _ _ [(0, .agg #[.bool p0.xLeaf, .slice A0x0 p0.xPairs.ls.length c0x0, .slice A0x1 p0.xKids.ls.length c0x1, .slice A0x2 p0.xPivots.ls.length c0x2, .slice A0x3 p0.xBuffers.ls.length c0x3])] _ _
  refine Wp.seq (Wp.region ?_)
  refine WL.do rfl (Do.newP (cs := [.bool p0.xLeaf, .slice A0x0 p0.xPairs.ls.length c0x0, .slice A0x1 p0.xKids.ls.length c0x1, .slice A0x2 p0.xPivots.ls.length c0x2, .slice A0x3 p0.xBuffers.ls.length c0x3]) (t := 27) H rfl rfl (fun _ => by kernel_rfl) ?_)
  intro g21 w22 H23
  refine As rfl rfl (WL.nil (Fin.then (Wp.seq (Wp.seq (Wp.region (Kn (v := .pointer (some ⟨g21, 0, none⟩)) rfl rfl rfl (fun _ => by kernel_rfl) (WL.val (v := .bool p0.xLeaf) rfl (Yl.load rfl (Lds.one Tryz.isAgg4 (Cls.of (H23.cls (i := 0) rfl) rfl))) (WL.nil (Fin.then ?_)))))))))
  rcases Bool.eq_false_or_eq_true (p0.xLeaf) with h24 | h24
  refine Wp.cond1 rfl h24 (Wp.seq (Wp.region ?_))
  refine WL.do rfl (Do.newRow (cs := [.int .u8 1]) (t := 5) (sz := 1) (m := 1) H23 rfl rfl (fun _ => by kernel_rfl) rfl (by decide) ?_)
  intro A25 w26 H27
  replace H27 : Own w D w26 [row A25 1 1 (List.flatMap eB ([1])) 5 1, blk g21 [.bool p0.xLeaf, .slice A0x0 p0.xPairs.ls.length c0x0, .slice A0x1 p0.xKids.ls.length c0x1, .slice A0x2 p0.xPivots.ls.length c0x2, .slice A0x3 p0.xBuffers.ls.length c0x3] 27] := H27
  refine Kn (v := .pointer (some ⟨g21, 1, none⟩)) rfl rfl rfl (fun _ => by kernel_rfl) (WL.val (v := .slice A0x0 p0.xPairs.ls.length c0x0) rfl (Yl.load rfl (Lds.one Tryz.isAgg22 (Cls.of (H27.cls (i := 1) rfl) rfl))) (Kn (v := .int .i64 ((p0.xPairs.ls.length : Nat) : Int)) rfl rfl rfl (fun _ => by kernel_rfl) ?_))
  obtain ⟨r33, hr34⟩ : ∃ q, r13_num ([1]) ((p0.xPairs.ls.length : Nat) : Int) = q := ⟨_, rfl⟩
  obtain ⟨D28, HP29, ro30, bk31, rr32⟩ := Own.enter1 H27
  refine WL.do rfl (Do.call Tryz.call39 rfl (r13_num_ok _ _ A25 1 1 ([1]) ((p0.xPairs.ls.length : Nat) : Int) r33 HP29 rfl (by simp) (by first | omega | (simp only [List.length_cons, List.length_nil, List.length_append]; omega)) hr34) ?_)
  rintro _ w35 ⟨A38, c39, rfl, HQ36, hk40⟩
  have H37 := bk31 _ _ HQ36
  have hb41 := H37.rowC (i := 0) rfl
  replace hk40 : r33.length ≤ 1 + 10 := hk40
  refine As rfl rfl (WL.nil (Fin.then (Wp.seq (Wp.seq (Wp.region (Kn (v := .pointer (some ⟨g21, 1, none⟩)) rfl rfl rfl (fun _ => by kernel_rfl) (WL.val (v := .slice A0x0 p0.xPairs.ls.length c0x0) rfl (Yl.load rfl (Lds.one Tryz.isAgg22 (Cls.of (H37.cls (i := 1) rfl) rfl))) (Kn (v := .int .i64 ((p0.xPairs.ls.length : Nat) : Int)) rfl rfl rfl (fun _ => by kernel_rfl) (Mv rfl rfl (WL.nil (Fin.then (Wp.block ?_))))))))))))
  have H47 := H37.pick [1, 0] (by decide) rfl
  refine Wp.loop (ι := (Option Addr) × Nat × (List UInt8) × Nat) (fun i => [(3, .slice i.1 i.2.2.1.length i.2.1), (25, .int .i64 ((i.2.2.2 : Nat) : Int)), (24, .int .i64 ((p0.xPairs.ls.length : Nat) : Int)), (23, .slice A0x0 p0.xPairs.ls.length c0x0), (2, .slice none 0 0), (1, .pointer (some ⟨g21, 0, none⟩))]) (fun (i : (Option Addr) × Nat × (List UInt8) × Nat) w' => Own w D w' [blk g21 [.bool p0.xLeaf, .slice A0x0 p0.xPairs.ls.length c0x0, .slice A0x1 p0.xKids.ls.length c0x1, .slice A0x2 p0.xPivots.ls.length c0x2, .slice A0x3 p0.xBuffers.ls.length c0x3] 27, row i.1 i.2.2.1.length i.2.1 (List.flatMap eB i.2.2.1) 5 1] ∧ (i.2.2.2 ≤ p0.xPairs.ls.length ∧ ((i.2.2.1.length : Nat) : Int) ≤ 11 + 2097172 * ((i.2.2.2 : Nat) : Int) ∧ r13_whole_L0 p0.xPairs.ls r33 = r13_whole_L0 (List.drop i.2.2.2 p0.xPairs.ls) i.2.2.1)) (fun i => p0.xPairs.ls.length - i.2.2.2) (A38, c39, r33, 0) ⟨rfl, rfl, rfl, rfl, rfl, rfl, trivial⟩ ⟨H47, (show 0 ≤ p0.xPairs.ls.length ∧ ((r33.length : Nat) : Int) ≤ 11 + 2097172 * ((0 : Nat) : Int) ∧ r13_whole_L0 p0.xPairs.ls r33 = r13_whole_L0 (List.drop 0 p0.xPairs.ls) r33 from ⟨by omega, by omega, rfl⟩)⟩ ?_
  rintro ⟨A42, c43, l44, k45⟩ w48 ⟨H49, hf50⟩
  show Wp _ _ _ [(3, .slice A42 l44.length c43), (25, .int .i64 ((k45 : Nat) : Int)), (24, .int .i64 ((p0.xPairs.ls.length : Nat) : Int)), (23, .slice A0x0 p0.xPairs.ls.length c0x0), (2, .slice none 0 0), (1, .pointer (some ⟨g21, 0, none⟩))] _ _
  replace hf50 : k45 ≤ p0.xPairs.ls.length ∧ ((l44.length : Nat) : Int) ≤ 11 + 2097172 * ((k45 : Nat) : Int) ∧ r13_whole_L0 p0.xPairs.ls r33 = r13_whole_L0 (List.drop k45 p0.xPairs.ls) l44 := hf50
  obtain ⟨hi52, hi53, hq51⟩ := hf50
  refine Wp.seq (Wp.region (Kn (v := .bool (decide (((k45 : Nat) : Int) < ((p0.xPairs.ls.length : Nat) : Int)))) rfl rfl rfl (fun _ => by kernel_rfl) (WL.nil (Fin.then (Wp.seq ?_)))))
  by_cases h54 : ((k45 : Nat) : Int) < ((p0.xPairs.ls.length : Nat) : Int)
  obtain ⟨x55, hx56⟩ := rds_at (ls := p0.xPairs.ls) (i := k45) PairD.len (by decide) (H49.ro hx0x0) (by first | omega | (simp; done) | (simp; omega))
  have hz57 : x55.xKey.length ≤ 1048576 ∧ x55.xValue.length ≤ 1048576 := hh0.1.2 _ (List.mem_of_getElem? hx56)
  have hd58 := drop_at hx56
  refine Wp.cond1 rfl (decide_eq_true h54) (Wp.skip (Fin.then (Wp.seq (Wp.block (Wp.seq (Wp.region (WL.val (v := .pointer (some ⟨ab A0x0, ao A0x0 + k45 * 2, none⟩)) rfl (Yl.indexAddr (El22) rfl rfl ((H49.ro hx0x0).addr (i := k45) (by omega)) (by omega)) (WL.val (v := .agg (PairD.cells x55).toArray) rfl (Yl.load rfl (Lds.agg (cs := (PairD.cells x55)) Tryz.isAgg44 Tryz.sizeOf44 ((H49.ro hx0x0).elem PairD.len hx56 (by decide)))) ?_))))))))
  refine WL.do rfl (Do.newP (cs := [.string ⟨List.toArray ([])⟩, .string ⟨List.toArray ([])⟩]) (t := 44) H49 rfl rfl (fun _ => by kernel_rfl) ?_)
  intro g59 w60 H61
  refine WL.do0 (Do.store (vs := (PairD.cells x55)) (o := 0) H61 rfl rfl Tryz.sizeOf44 rfl rfl rfl rfl ?_)
  intro w62 H63
  refine WL.nil (Fin.then ?_)
  have H65 := H63.drew
  refine Wp.drawnX [] (fun W => ∃ L', Own w D W ([blk g59 (PairD.cells x55) 44, blk g21 [.bool p0.xLeaf, .slice A0x0 p0.xPairs.ls.length c0x0, .slice A0x1 p0.xKids.ls.length c0x1, .slice A0x2 p0.xPivots.ls.length c0x2, .slice A0x3 p0.xBuffers.ls.length c0x3] 27] ++ L')) (by kernel_rfl) (by kernel_rfl) (NoP.block (NoP.then (NoP.then (NoP.block (NoP.then (NoP.then NoP.base)))))) ⟨_, H65⟩ ?_
  revert H65
  generalize World.drew w62 = w64
  intro H65
  refine GX.take (v := .slice A42 l44.length c43) (rs := []) 0 rfl (by kernel_rfl) (fun _ _ => Yl.move rfl) (GX.take (v := .pointer (some ⟨g59, 0, none⟩)) (rs := []) 1 rfl (by kernel_rfl) (fun _ _ => Yl.kern rfl rfl (fun _ => by kernel_rfl)) (GX.take (v := .string ⟨List.toArray x55.xKey⟩) (rs := []) 2 rfl (by kernel_rfl) (fun _ ⟨_, H9⟩ => Yl.load rfl (Lds.one Tryz.isAgg9 (Cls.of (H9.cls (i := 0) rfl) rfl))) (GX.take (v := .pointer (some ⟨g59, 1, none⟩)) (rs := []) 4 rfl (by kernel_rfl) (fun _ _ => Yl.kern rfl rfl (fun _ => by kernel_rfl)) (GX.take (v := .string ⟨List.toArray x55.xValue⟩) (rs := []) 5 rfl (by kernel_rfl) (fun _ ⟨_, H9⟩ => Yl.load rfl (Lds.one Tryz.isAgg9 (Cls.of (H9.cls (i := 0) rfl) rfl))) ?_))))
  have H66 := H65.pick [2, 0, 1] (by decide) rfl
  obtain ⟨r72, hr73⟩ : ∃ q, r13_text l44 x55.xKey = q := ⟨_, rfl⟩
  obtain ⟨D67, HP68, ro69, bk70, rr71⟩ := Own.enter1 H66
  refine GX.do 3 rfl (by kernel_rfl) (Do.call Tryz.call40 rfl (r13_text_ok _ _ A42 l44.length c43 l44 x55.xKey r72 HP68 rfl (by omega) (by first | omega | (simp only [List.length_cons, List.length_nil, List.length_append]; omega)) hr73) ?_)
  rintro _ w74 ⟨A77, c78, rfl, HQ75, hk79⟩
  have H76 := bk70 _ _ HQ75
  have hb80 := H76.rowC (i := 0) rfl
  replace hk79 : r72.length ≤ l44.length + x55.xKey.length + 10 := hk79
  have H81 := H76.pick [1, 2, 0] (by decide) rfl
  refine ⟨.inr ⟨_, H81⟩, ?_⟩
  have H82 := H81.pick [2, 0, 1] (by decide) rfl
  obtain ⟨r88, hr89⟩ : ∃ q, r13_text r72 x55.xValue = q := ⟨_, rfl⟩
  obtain ⟨D83, HP84, ro85, bk86, rr87⟩ := Own.enter1 H82
  refine GX.do 6 rfl (by kernel_rfl) (Do.call Tryz.call40 rfl (r13_text_ok _ _ A77 r72.length c78 r72 x55.xValue r88 HP84 rfl (by omega) (by first | omega | (simp only [List.length_cons, List.length_nil, List.length_append]; omega)) hr89) ?_)
  rintro _ w90 ⟨A93, c94, rfl, HQ91, hk95⟩
  have H92 := bk86 _ _ HQ91
  have hb96 := H92.rowC (i := 0) rfl
  replace hk95 : r88.length ≤ r72.length + x55.xValue.length + 10 := hk95
  have H97 := H92.pick [1, 2, 0] (by decide) rfl
  refine ⟨.inr ⟨_, H97⟩, ?_⟩
  refine GX.take (v := .slice A93 r88.length c94) (rs := []) 7 rfl (by kernel_rfl) (fun _ _ => Yl.assign rfl) (GX.done (by kernel_rfl) (Fin.blockN (Fin.then (Wp.region (WL.val (v := .int .i64 ((k45 + 1 : Nat) : Int)) rfl (Yl.int (e := IntKind.i64.wrap (((k45 : Nat) : Int) + 1)) (Yl.kern rfl rfl (fun _ => by kernel_rfl)) (by rw [IntWalk.i64_in _ (by omega)]; omega)) (Mv rfl rfl (WL.nil ?_)))))))
  have H98 := H97.pick [1, 2] (by decide) rfl
  exact Fin.round (A93, c94, r88, k45 + 1) ⟨rfl, rfl, rfl, rfl, rfl, rfl, trivial⟩ ⟨H98, (show (k45 + 1) ≤ p0.xPairs.ls.length ∧ ((r88.length : Nat) : Int) ≤ 11 + 2097172 * (((k45 + 1) : Nat) : Int) ∧ r13_whole_L0 p0.xPairs.ls r33 = r13_whole_L0 (List.drop (k45 + 1) p0.xPairs.ls) r88 from ⟨by omega, by omega, Eq.trans (hq51) (Eq.trans (congrArg (fun q => r13_whole_L0 q l44) hd58) (Eq.trans (bnd_of hr73) (bnd_of hr89)))⟩)⟩ (by show p0.xPairs.ls.length - (k45 + 1) < p0.xPairs.ls.length - k45; omega)
  refine Wp.cond0 rfl (decide_eq_false h54) (Wp.exit (Fin.thenX ?_))
  have hL99 : r13_whole_L0 p0.xPairs.ls r33 = l44 := Eq.trans (hq51) (Eq.trans (congrArg (fun q => r13_whole_L0 q l44) (drop_end (ls := p0.xPairs.ls) (i := k45) (by omega))) rfl)
  refine Fin.thenX (Fin.blockX (Fin.then (Wp.seq (Wp.region (Mv rfl rfl (As rfl rfl (WL.nil (Fin.then (Wp.ret (Fin.thenR (Fin.res (res1 rfl rfl) ?_)))))))))))
  have H100 := H49.pick [1] (by decide) rfl
  have e : r13_whole p0 = l44 := Eq.trans (if_pos h24) (Eq.trans (bnd_of hr34) (bnd_of hL99))
  obtain rfl := e.symm.trans hr
  exact ⟨A42, c43, rfl, H100, (by omega)⟩
  refine Wp.cond0 rfl h24 (Wp.skip (Fin.then (Wp.seq (Wp.region ?_))))
  refine WL.do rfl (Do.newRow (cs := [.int .u8 2]) (t := 5) (sz := 1) (m := 1) H23 rfl rfl (fun _ => by kernel_rfl) rfl (by decide) ?_)
  intro A101 w102 H103
  replace H103 : Own w D w102 [row A101 1 1 (List.flatMap eB ([2])) 5 1, blk g21 [.bool p0.xLeaf, .slice A0x0 p0.xPairs.ls.length c0x0, .slice A0x1 p0.xKids.ls.length c0x1, .slice A0x2 p0.xPivots.ls.length c0x2, .slice A0x3 p0.xBuffers.ls.length c0x3] 27] := H103
  refine Kn (v := .pointer (some ⟨g21, 2, none⟩)) rfl rfl rfl (fun _ => by kernel_rfl) (WL.val (v := .slice A0x1 p0.xKids.ls.length c0x1) rfl (Yl.load rfl (Lds.one Tryz.isAgg23 (Cls.of (H103.cls (i := 1) rfl) rfl))) (Kn (v := .int .i64 ((p0.xKids.ls.length : Nat) : Int)) rfl rfl rfl (fun _ => by kernel_rfl) ?_))
  obtain ⟨r109, hr110⟩ : ∃ q, r13_num ([2]) ((p0.xKids.ls.length : Nat) : Int) = q := ⟨_, rfl⟩
  obtain ⟨D104, HP105, ro106, bk107, rr108⟩ := Own.enter1 H103
  refine WL.do rfl (Do.call Tryz.call39 rfl (r13_num_ok _ _ A101 1 1 ([2]) ((p0.xKids.ls.length : Nat) : Int) r109 HP105 rfl (by simp) (by first | omega | (simp only [List.length_cons, List.length_nil, List.length_append]; omega)) hr110) ?_)
  rintro _ w111 ⟨A114, c115, rfl, HQ112, hk116⟩
  have H113 := bk107 _ _ HQ112
  have hb117 := H113.rowC (i := 0) rfl
  replace hk116 : r109.length ≤ 1 + 10 := hk116
  have hz118 : p0.xKids.ls.length ≤ 8 ∧ p0.xPivots.ls.length ≤ 8 ∧ p0.xBuffers.ls.length ≤ 8 := Or.resolve_left hh1 (by rw [h24]; decide)
  refine As rfl rfl (WL.nil (Fin.then (Wp.seq (Wp.seq (Wp.region (Kn (v := .pointer (some ⟨g21, 2, none⟩)) rfl rfl rfl (fun _ => by kernel_rfl) (WL.val (v := .slice A0x1 p0.xKids.ls.length c0x1) rfl (Yl.load rfl (Lds.one Tryz.isAgg23 (Cls.of (H113.cls (i := 1) rfl) rfl))) (Kn (v := .int .i64 ((p0.xKids.ls.length : Nat) : Int)) rfl rfl rfl (fun _ => by kernel_rfl) (Mv rfl rfl (WL.nil (Fin.then (Wp.block ?_))))))))))))
  have H124 := H113.pick [1, 0] (by decide) rfl
  refine Wp.loop (ι := (Option Addr) × Nat × (List UInt8) × Nat) (fun i => [(6, .slice i.1 i.2.2.1.length i.2.1), (46, .int .i64 ((i.2.2.2 : Nat) : Int)), (45, .int .i64 ((p0.xKids.ls.length : Nat) : Int)), (44, .slice A0x1 p0.xKids.ls.length c0x1), (2, .slice none 0 0), (1, .pointer (some ⟨g21, 0, none⟩))]) (fun (i : (Option Addr) × Nat × (List UInt8) × Nat) w' => Own w D w' [blk g21 [.bool p0.xLeaf, .slice A0x0 p0.xPairs.ls.length c0x0, .slice A0x1 p0.xKids.ls.length c0x1, .slice A0x2 p0.xPivots.ls.length c0x2, .slice A0x3 p0.xBuffers.ls.length c0x3] 27, row i.1 i.2.2.1.length i.2.1 (List.flatMap eB i.2.2.1) 5 1] ∧ (i.2.2.2 ≤ p0.xKids.ls.length ∧ ((i.2.2.1.length : Nat) : Int) ≤ 11 + 10 * ((i.2.2.2 : Nat) : Int) ∧ r13_whole_L1 p0 p0.xKids.ls r109 = r13_whole_L1 p0 (List.drop i.2.2.2 p0.xKids.ls) i.2.2.1)) (fun i => p0.xKids.ls.length - i.2.2.2) (A114, c115, r109, 0) ⟨rfl, rfl, rfl, rfl, rfl, rfl, trivial⟩ ⟨H124, (show 0 ≤ p0.xKids.ls.length ∧ ((r109.length : Nat) : Int) ≤ 11 + 10 * ((0 : Nat) : Int) ∧ r13_whole_L1 p0 p0.xKids.ls r109 = r13_whole_L1 p0 (List.drop 0 p0.xKids.ls) r109 from ⟨by omega, by omega, rfl⟩)⟩ ?_
  rintro ⟨A119, c120, l121, k122⟩ w125 ⟨H126, hf127⟩
  show Wp _ _ _ [(6, .slice A119 l121.length c120), (46, .int .i64 ((k122 : Nat) : Int)), (45, .int .i64 ((p0.xKids.ls.length : Nat) : Int)), (44, .slice A0x1 p0.xKids.ls.length c0x1), (2, .slice none 0 0), (1, .pointer (some ⟨g21, 0, none⟩))] _ _
  replace hf127 : k122 ≤ p0.xKids.ls.length ∧ ((l121.length : Nat) : Int) ≤ 11 + 10 * ((k122 : Nat) : Int) ∧ r13_whole_L1 p0 p0.xKids.ls r109 = r13_whole_L1 p0 (List.drop k122 p0.xKids.ls) l121 := hf127
  obtain ⟨hi129, hi130, hq128⟩ := hf127
  refine Wp.seq (Wp.region (Kn (v := .bool (decide (((k122 : Nat) : Int) < ((p0.xKids.ls.length : Nat) : Int)))) rfl rfl rfl (fun _ => by kernel_rfl) (WL.nil (Fin.then (Wp.seq ?_)))))
  by_cases h131 : ((k122 : Nat) : Int) < ((p0.xKids.ls.length : Nat) : Int)
  obtain ⟨x132, hx133⟩ := rds_at (ls := p0.xKids.ls) (i := k122) eI_len (by decide) (H126.ro hx0x1) (by first | omega | (simp; done) | (simp; omega))
  have hd134 := drop_at hx133
  refine Wp.cond1 rfl (decide_eq_true h131) (Wp.skip (Fin.then (Wp.seq (Wp.block (Wp.seq (Wp.region (WL.val (v := .pointer (some ⟨ab A0x1, ao A0x1 + k122 * 1, none⟩)) rfl (Yl.indexAddr (El23) rfl rfl ((H126.ro hx0x1).addr (i := k122) (by omega)) (by omega)) (WL.val (v := .int .i64 x132) rfl (Yl.load rfl (Lds.one Tryz.isAgg3 (((H126.ro hx0x1).elem eI_len hx133 (by decide)).at_ (k := 0) rfl))) (As rfl rfl (WL.nil (Fin.then (Wp.region (Mv rfl rfl (Mv rfl rfl ?_))))))))))))))
  have H135 := H126.pick [1, 0] (by decide) rfl
  obtain ⟨r141, hr142⟩ : ∃ q, r13_num l121 x132 = q := ⟨_, rfl⟩
  obtain ⟨D136, HP137, ro138, bk139, rr140⟩ := Own.enter1 H135
  refine WL.do rfl (Do.call Tryz.call39 rfl (r13_num_ok _ _ A119 l121.length c120 l121 x132 r141 HP137 rfl (by omega) (by first | omega | (simp only [List.length_cons, List.length_nil, List.length_append]; omega)) hr142) ?_)
  rintro _ w143 ⟨A146, c147, rfl, HQ144, hk148⟩
  have H145 := bk139 _ _ HQ144
  have hb149 := H145.rowC (i := 0) rfl
  replace hk148 : r141.length ≤ l121.length + 10 := hk148
  refine As rfl rfl (WL.nil (Fin.blockN (Fin.then (Wp.region (WL.val (v := .int .i64 ((k122 + 1 : Nat) : Int)) rfl (Yl.int (e := IntKind.i64.wrap (((k122 : Nat) : Int) + 1)) (Yl.kern rfl rfl (fun _ => by kernel_rfl)) (by rw [IntWalk.i64_in _ (by omega)]; omega)) (Mv rfl rfl (WL.nil ?_)))))))
  have H150 := H145.pick [1, 0] (by decide) rfl
  exact Fin.round (A146, c147, r141, k122 + 1) ⟨rfl, rfl, rfl, rfl, rfl, rfl, trivial⟩ ⟨H150, (show (k122 + 1) ≤ p0.xKids.ls.length ∧ ((r141.length : Nat) : Int) ≤ 11 + 10 * (((k122 + 1) : Nat) : Int) ∧ r13_whole_L1 p0 p0.xKids.ls r109 = r13_whole_L1 p0 (List.drop (k122 + 1) p0.xKids.ls) r141 from ⟨by omega, by omega, Eq.trans (hq128) (Eq.trans (congrArg (fun q => r13_whole_L1 p0 q l121) hd134) (bnd_of hr142))⟩)⟩ (by show p0.xKids.ls.length - (k122 + 1) < p0.xKids.ls.length - k122; omega)
  refine Wp.cond0 rfl (decide_eq_false h131) (Wp.exit (Fin.thenX ?_))
  have hL151 : r13_whole_L1 p0 p0.xKids.ls r109 = l121 := Eq.trans (hq128) (Eq.trans (congrArg (fun q => r13_whole_L1 p0 q l121) (drop_end (ls := p0.xKids.ls) (i := k122) (by omega))) rfl)
  refine Fin.thenX (Fin.blockX (Fin.then (Wp.seq (Wp.seq (Wp.region (Kn (v := .pointer (some ⟨g21, 3, none⟩)) rfl rfl rfl (fun _ => by kernel_rfl) (WL.val (v := .slice A0x2 p0.xPivots.ls.length c0x2) rfl (Yl.load rfl (Lds.one Tryz.isAgg24 (Cls.of (H126.cls (i := 0) rfl) rfl))) (Kn (v := .int .i64 ((p0.xPivots.ls.length : Nat) : Int)) rfl rfl rfl (fun _ => by kernel_rfl) (Mv rfl rfl (WL.nil (Fin.then (Wp.block ?_))))))))))))
  have H157 := H126.pick [0, 1] (by decide) rfl
  refine Wp.loop (ι := (Option Addr) × Nat × (List UInt8) × Nat) (fun i => [(6, .slice i.1 i.2.2.1.length i.2.1), (57, .int .i64 ((i.2.2.2 : Nat) : Int)), (56, .int .i64 ((p0.xPivots.ls.length : Nat) : Int)), (55, .slice A0x2 p0.xPivots.ls.length c0x2), (2, .slice none 0 0), (1, .pointer (some ⟨g21, 0, none⟩))]) (fun (i : (Option Addr) × Nat × (List UInt8) × Nat) w' => Own w D w' [blk g21 [.bool p0.xLeaf, .slice A0x0 p0.xPairs.ls.length c0x0, .slice A0x1 p0.xKids.ls.length c0x1, .slice A0x2 p0.xPivots.ls.length c0x2, .slice A0x3 p0.xBuffers.ls.length c0x3] 27, row i.1 i.2.2.1.length i.2.1 (List.flatMap eB i.2.2.1) 5 1] ∧ (i.2.2.2 ≤ p0.xPivots.ls.length ∧ ((i.2.2.1.length : Nat) : Int) ≤ 91 + 1048586 * ((i.2.2.2 : Nat) : Int) ∧ r13_whole_L2 p0 p0.xPivots.ls l121 = r13_whole_L2 p0 (List.drop i.2.2.2 p0.xPivots.ls) i.2.2.1)) (fun i => p0.xPivots.ls.length - i.2.2.2) (A119, c120, l121, 0) ⟨rfl, rfl, rfl, rfl, rfl, rfl, trivial⟩ ⟨H157, (show 0 ≤ p0.xPivots.ls.length ∧ ((l121.length : Nat) : Int) ≤ 91 + 1048586 * ((0 : Nat) : Int) ∧ r13_whole_L2 p0 p0.xPivots.ls l121 = r13_whole_L2 p0 (List.drop 0 p0.xPivots.ls) l121 from ⟨by omega, by omega, rfl⟩)⟩ ?_
  rintro ⟨A152, c153, l154, k155⟩ w158 ⟨H159, hf160⟩
  show Wp _ _ _ [(6, .slice A152 l154.length c153), (57, .int .i64 ((k155 : Nat) : Int)), (56, .int .i64 ((p0.xPivots.ls.length : Nat) : Int)), (55, .slice A0x2 p0.xPivots.ls.length c0x2), (2, .slice none 0 0), (1, .pointer (some ⟨g21, 0, none⟩))] _ _
  replace hf160 : k155 ≤ p0.xPivots.ls.length ∧ ((l154.length : Nat) : Int) ≤ 91 + 1048586 * ((k155 : Nat) : Int) ∧ r13_whole_L2 p0 p0.xPivots.ls l121 = r13_whole_L2 p0 (List.drop k155 p0.xPivots.ls) l154 := hf160
  obtain ⟨hi162, hi163, hq161⟩ := hf160
  refine Wp.seq (Wp.region (Kn (v := .bool (decide (((k155 : Nat) : Int) < ((p0.xPivots.ls.length : Nat) : Int)))) rfl rfl rfl (fun _ => by kernel_rfl) (WL.nil (Fin.then (Wp.seq ?_)))))
  by_cases h164 : ((k155 : Nat) : Int) < ((p0.xPivots.ls.length : Nat) : Int)
  obtain ⟨x165, hx166⟩ := rds_at (ls := p0.xPivots.ls) (i := k155) eS_len (by decide) (H159.ro hx0x2) (by first | omega | (simp; done) | (simp; omega))
  have hz167 : x165.length ≤ 1048576 := hh0.2.1 _ (List.mem_of_getElem? hx166)
  have hd168 := drop_at hx166
  refine Wp.cond1 rfl (decide_eq_true h164) (Wp.skip (Fin.then (Wp.seq (Wp.block (Wp.seq (Wp.region (WL.val (v := .pointer (some ⟨ab A0x2, ao A0x2 + k155 * 1, none⟩)) rfl (Yl.indexAddr (El24) rfl rfl ((H159.ro hx0x2).addr (i := k155) (by omega)) (by omega)) (WL.val (v := .string ⟨List.toArray x165⟩) rfl (Yl.load rfl (Lds.one Tryz.isAgg9 (((H159.ro hx0x2).elem eS_len hx166 (by decide)).at_ (k := 0) rfl))) (As rfl rfl (WL.nil (Fin.then (Wp.region (Mv rfl rfl (Mv rfl rfl ?_))))))))))))))
  have H169 := H159.pick [1, 0] (by decide) rfl
  obtain ⟨r175, hr176⟩ : ∃ q, r13_text l154 x165 = q := ⟨_, rfl⟩
  obtain ⟨D170, HP171, ro172, bk173, rr174⟩ := Own.enter1 H169
  refine WL.do rfl (Do.call Tryz.call40 rfl (r13_text_ok _ _ A152 l154.length c153 l154 x165 r175 HP171 rfl (by omega) (by first | omega | (simp only [List.length_cons, List.length_nil, List.length_append]; omega)) hr176) ?_)
  rintro _ w177 ⟨A180, c181, rfl, HQ178, hk182⟩
  have H179 := bk173 _ _ HQ178
  have hb183 := H179.rowC (i := 0) rfl
  replace hk182 : r175.length ≤ l154.length + x165.length + 10 := hk182
  refine As rfl rfl (WL.nil (Fin.blockN (Fin.then (Wp.region (WL.val (v := .int .i64 ((k155 + 1 : Nat) : Int)) rfl (Yl.int (e := IntKind.i64.wrap (((k155 : Nat) : Int) + 1)) (Yl.kern rfl rfl (fun _ => by kernel_rfl)) (by rw [IntWalk.i64_in _ (by omega)]; omega)) (Mv rfl rfl (WL.nil ?_)))))))
  have H184 := H179.pick [1, 0] (by decide) rfl
  exact Fin.round (A180, c181, r175, k155 + 1) ⟨rfl, rfl, rfl, rfl, rfl, rfl, trivial⟩ ⟨H184, (show (k155 + 1) ≤ p0.xPivots.ls.length ∧ ((r175.length : Nat) : Int) ≤ 91 + 1048586 * (((k155 + 1) : Nat) : Int) ∧ r13_whole_L2 p0 p0.xPivots.ls l121 = r13_whole_L2 p0 (List.drop (k155 + 1) p0.xPivots.ls) r175 from ⟨by omega, by omega, Eq.trans (hq161) (Eq.trans (congrArg (fun q => r13_whole_L2 p0 q l154) hd168) (bnd_of hr176))⟩)⟩ (by show p0.xPivots.ls.length - (k155 + 1) < p0.xPivots.ls.length - k155; omega)
  refine Wp.cond0 rfl (decide_eq_false h164) (Wp.exit (Fin.thenX ?_))
  have hL185 : r13_whole_L2 p0 p0.xPivots.ls l121 = l154 := Eq.trans (hq161) (Eq.trans (congrArg (fun q => r13_whole_L2 p0 q l154) (drop_end (ls := p0.xPivots.ls) (i := k155) (by omega))) rfl)
  refine Fin.thenX (Fin.blockX (Fin.then (Wp.seq (Wp.seq (Wp.region (Kn (v := .pointer (some ⟨g21, 4, none⟩)) rfl rfl rfl (fun _ => by kernel_rfl) (WL.val (v := .slice A0x3 p0.xBuffers.ls.length c0x3) rfl (Yl.load rfl (Lds.one Tryz.isAgg25 (Cls.of (H159.cls (i := 0) rfl) rfl))) (Kn (v := .int .i64 ((p0.xBuffers.ls.length : Nat) : Int)) rfl rfl rfl (fun _ => by kernel_rfl) (Mv rfl rfl (WL.nil (Fin.then (Wp.block ?_))))))))))))
  have H191 := H159.pick [0, 1] (by decide) rfl
  refine Wp.loop (ι := (Option Addr) × Nat × (List UInt8) × Nat) (fun i => [(6, .slice i.1 i.2.2.1.length i.2.1), (68, .int .i64 ((i.2.2.2 : Nat) : Int)), (67, .int .i64 ((p0.xBuffers.ls.length : Nat) : Int)), (66, .slice A0x3 p0.xBuffers.ls.length c0x3), (2, .slice none 0 0)]) (fun (i : (Option Addr) × Nat × (List UInt8) × Nat) w' => Own w D w' [blk g21 [.bool p0.xLeaf, .slice A0x0 p0.xPairs.ls.length c0x0, .slice A0x1 p0.xKids.ls.length c0x1, .slice A0x2 p0.xPivots.ls.length c0x2, .slice A0x3 p0.xBuffers.ls.length c0x3] 27, row i.1 i.2.2.1.length i.2.1 (List.flatMap eB i.2.2.1) 5 1] ∧ (i.2.2.2 ≤ p0.xBuffers.ls.length ∧ ((i.2.2.1.length : Nat) : Int) ≤ 8388779 + 2199055761418 * ((i.2.2.2 : Nat) : Int) ∧ r13_whole_L3 p0.xBuffers.ls l154 = r13_whole_L3 (List.drop i.2.2.2 p0.xBuffers.ls) i.2.2.1)) (fun i => p0.xBuffers.ls.length - i.2.2.2) (A152, c153, l154, 0) ⟨rfl, rfl, rfl, rfl, rfl, trivial⟩ ⟨H191, (show 0 ≤ p0.xBuffers.ls.length ∧ ((l154.length : Nat) : Int) ≤ 8388779 + 2199055761418 * ((0 : Nat) : Int) ∧ r13_whole_L3 p0.xBuffers.ls l154 = r13_whole_L3 (List.drop 0 p0.xBuffers.ls) l154 from ⟨by omega, by omega, rfl⟩)⟩ ?_
  rintro ⟨A186, c187, l188, k189⟩ w192 ⟨H193, hf194⟩
  show Wp _ _ _ [(6, .slice A186 l188.length c187), (68, .int .i64 ((k189 : Nat) : Int)), (67, .int .i64 ((p0.xBuffers.ls.length : Nat) : Int)), (66, .slice A0x3 p0.xBuffers.ls.length c0x3), (2, .slice none 0 0)] _ _
  replace hf194 : k189 ≤ p0.xBuffers.ls.length ∧ ((l188.length : Nat) : Int) ≤ 8388779 + 2199055761418 * ((k189 : Nat) : Int) ∧ r13_whole_L3 p0.xBuffers.ls l154 = r13_whole_L3 (List.drop k189 p0.xBuffers.ls) l188 := hf194
  obtain ⟨hi196, hi197, hq195⟩ := hf194
  refine Wp.seq (Wp.region (Kn (v := .bool (decide (((k189 : Nat) : Int) < ((p0.xBuffers.ls.length : Nat) : Int)))) rfl rfl rfl (fun _ => by kernel_rfl) (WL.nil (Fin.then (Wp.seq ?_)))))
  by_cases h198 : ((k189 : Nat) : Int) < ((p0.xBuffers.ls.length : Nat) : Int)
  obtain ⟨x199, hx200⟩ := rds_at (ls := d0x3) (i := k189) svLen (by decide) (H193.ro hx0x3) (by first | omega | (simp; done) | (simp; omega))
  have hX201 := abs_at hd0x3 hx200
  have hb202 := (hm0x3 _ (List.mem_of_getElem? hx200)).2
  have hz203 : x199.ls.length ≤ 1048576 ∧ ∀ y ∈ x199.ls, y.xSeq ≤ 18446744073709551615 ∧ y.xOp.xKey.length ≤ 1048576 ∧ y.xOp.xValue.length ≤ 1048576 ∧ y.xOp.xLo.length ≤ 1048576 ∧ y.xOp.xHi.length ≤ 1048576 := hh0.2.2 _ (List.mem_of_getElem? hX201)
  have hz203a := hz203.1
  have hd204 := drop_at hX201
  refine Wp.cond1 rfl (decide_eq_true h198) (Wp.skip (Fin.then (Wp.seq (Wp.block (Wp.seq (Wp.region (WL.val (v := .pointer (some ⟨ab A0x3, ao A0x3 + k189 * 1, none⟩)) rfl (Yl.indexAddr (El25) rfl rfl ((H193.ro hx0x3).addr (i := k189) (by omega)) (by omega)) (WL.val (v := .slice x199.A x199.ls.length x199.c) rfl (Yl.load rfl (Lds.one Tryz.isAgg46 (((H193.ro hx0x3).elem svLen hx200 (by decide)).at_ (k := 0) rfl))) (As rfl rfl (WL.nil (Fin.then (Wp.seq (Wp.region (Mv rfl rfl (Mv rfl rfl (Kn (v := .int .i64 ((x199.ls.length : Nat) : Int)) rfl rfl rfl (fun _ => by kernel_rfl) ?_))))))))))))))))
  have H205 := H193.pick [1, 0] (by decide) rfl
  obtain ⟨r211, hr212⟩ : ∃ q, r13_num l188 ((x199.ls.length : Nat) : Int) = q := ⟨_, rfl⟩
  obtain ⟨D206, HP207, ro208, bk209, rr210⟩ := Own.enter1 H205
  refine WL.do rfl (Do.call Tryz.call39 rfl (r13_num_ok _ _ A186 l188.length c187 l188 ((x199.ls.length : Nat) : Int) r211 HP207 rfl (by omega) (by first | omega | (simp only [List.length_cons, List.length_nil, List.length_append]; omega)) hr212) ?_)
  rintro _ w213 ⟨A216, c217, rfl, HQ214, hk218⟩
  have H215 := bk209 _ _ HQ214
  have hb219 := H215.rowC (i := 0) rfl
  replace hk218 : r211.length ≤ l188.length + 10 := hk218
  refine As rfl rfl (WL.nil (Fin.then (Wp.seq (Wp.region (Mv rfl rfl (Kn (v := .int .i64 ((x199.ls.length : Nat) : Int)) rfl rfl rfl (fun _ => by kernel_rfl) (Mv rfl rfl (WL.nil (Fin.then (Wp.block ?_))))))))))
  have H225 := H215.pick [1, 0] (by decide) rfl
  refine Wp.loop (ι := (Option Addr) × Nat × (List UInt8) × Nat) (fun i => [(6, .slice i.1 i.2.2.1.length i.2.1), (78, .int .i64 ((i.2.2.2 : Nat) : Int)), (77, .int .i64 ((x199.ls.length : Nat) : Int)), (76, .slice x199.A x199.ls.length x199.c), (75, .slice A216 r211.length c217), (74, .int .i64 ((x199.ls.length : Nat) : Int)), (73, .slice x199.A x199.ls.length x199.c), (72, .slice A186 l188.length c187), (12, .slice x199.A x199.ls.length x199.c), (71, .slice x199.A x199.ls.length x199.c), (70, .pointer (some ⟨ab A0x3, ao A0x3 + k189 * 1, none⟩)), (69, .bool (decide (((k189 : Nat) : Int) < ((p0.xBuffers.ls.length : Nat) : Int)))), (68, .int .i64 ((k189 : Nat) : Int)), (67, .int .i64 ((p0.xBuffers.ls.length : Nat) : Int)), (66, .slice A0x3 p0.xBuffers.ls.length c0x3), (2, .slice none 0 0)]) (fun (i : (Option Addr) × Nat × (List UInt8) × Nat) w' => Own w D w' [blk g21 [.bool p0.xLeaf, .slice A0x0 p0.xPairs.ls.length c0x0, .slice A0x1 p0.xKids.ls.length c0x1, .slice A0x2 p0.xPivots.ls.length c0x2, .slice A0x3 p0.xBuffers.ls.length c0x3] 27, row i.1 i.2.2.1.length i.2.1 (List.flatMap eB i.2.2.1) 5 1] ∧ (i.2.2.2 ≤ x199.ls.length ∧ ((i.2.2.1.length : Nat) : Int) ≤ ((r211.length : Nat) : Int) + 2097183 * ((i.2.2.2 : Nat) : Int) ∧ r13_whole_L4 x199.ls r211 = r13_whole_L4 (List.drop i.2.2.2 x199.ls) i.2.2.1)) (fun i => x199.ls.length - i.2.2.2) (A216, c217, r211, 0) ⟨rfl, rfl, rfl, rfl, rfl, rfl, rfl, rfl, rfl, rfl, rfl, rfl, rfl, rfl, rfl, rfl, trivial⟩ ⟨H225, (show 0 ≤ x199.ls.length ∧ ((r211.length : Nat) : Int) ≤ ((r211.length : Nat) : Int) + 2097183 * ((0 : Nat) : Int) ∧ r13_whole_L4 x199.ls r211 = r13_whole_L4 (List.drop 0 x199.ls) r211 from ⟨by omega, by omega, rfl⟩)⟩ ?_
  rintro ⟨A220, c221, l222, k223⟩ w226 ⟨H227, hf228⟩
  show Wp _ _ _ [(6, .slice A220 l222.length c221), (78, .int .i64 ((k223 : Nat) : Int)), (77, .int .i64 ((x199.ls.length : Nat) : Int)), (76, .slice x199.A x199.ls.length x199.c), (75, .slice A216 r211.length c217), (74, .int .i64 ((x199.ls.length : Nat) : Int)), (73, .slice x199.A x199.ls.length x199.c), (72, .slice A186 l188.length c187), (12, .slice x199.A x199.ls.length x199.c), (71, .slice x199.A x199.ls.length x199.c), (70, .pointer (some ⟨ab A0x3, ao A0x3 + k189 * 1, none⟩)), (69, .bool (decide (((k189 : Nat) : Int) < ((p0.xBuffers.ls.length : Nat) : Int)))), (68, .int .i64 ((k189 : Nat) : Int)), (67, .int .i64 ((p0.xBuffers.ls.length : Nat) : Int)), (66, .slice A0x3 p0.xBuffers.ls.length c0x3), (2, .slice none 0 0)] _ _
  replace hf228 : k223 ≤ x199.ls.length ∧ ((l222.length : Nat) : Int) ≤ ((r211.length : Nat) : Int) + 2097183 * ((k223 : Nat) : Int) ∧ r13_whole_L4 x199.ls r211 = r13_whole_L4 (List.drop k223 x199.ls) l222 := hf228
  obtain ⟨hi230, hi231, hq229⟩ := hf228
  refine Wp.seq (Wp.region (Kn (v := .bool (decide (((k223 : Nat) : Int) < ((x199.ls.length : Nat) : Int)))) rfl rfl rfl (fun _ => by kernel_rfl) (WL.nil (Fin.then (Wp.seq ?_)))))
  by_cases h232 : ((k223 : Nat) : Int) < ((x199.ls.length : Nat) : Int)
  obtain ⟨x233, hx234⟩ := rds_at (ls := x199.ls) (i := k223) EntryD.len (by decide) (H227.ro (hm0x3 _ (List.mem_of_getElem? hx200)).1) (by first | omega | (simp; done) | (simp; omega))
  have hz235 : x233.xSeq ≤ 18446744073709551615 ∧ x233.xOp.xKey.length ≤ 1048576 ∧ x233.xOp.xValue.length ≤ 1048576 ∧ x233.xOp.xLo.length ≤ 1048576 ∧ x233.xOp.xHi.length ≤ 1048576 := hz203.2 _ (List.mem_of_getElem? hx234)
  have hd236 := drop_at hx234
  refine Wp.cond1 rfl (decide_eq_true h232) (Wp.skip (Fin.then (Wp.seq (Wp.block (Wp.seq (Wp.region (WL.val (v := .pointer (some ⟨ab x199.A, ao x199.A + k223 * 7, none⟩)) rfl (Yl.indexAddr (El46) rfl rfl ((H227.ro (hm0x3 _ (List.mem_of_getElem? hx200)).1).addr (i := k223) (by omega)) (by omega)) (WL.val (v := .agg (EntryD.cells x233).toArray) rfl (Yl.load rfl (Lds.agg (cs := (EntryD.cells x233)) Tryz.isAgg61 Tryz.sizeOf61 ((H227.ro (hm0x3 _ (List.mem_of_getElem? hx200)).1).elem EntryD.len hx234 (by decide)))) ?_))))))))
  refine WL.do rfl (Do.newP (cs := [.int .u64 0, .int .i64 0, .string ⟨List.toArray ([])⟩, .string ⟨List.toArray ([])⟩, .string ⟨List.toArray ([])⟩, .string ⟨List.toArray ([])⟩, .int .i64 0]) (t := 61) H227 rfl rfl (fun _ => by kernel_rfl) ?_)
  intro g237 w238 H239
  refine WL.do0 (Do.store (vs := (EntryD.cells x233)) (o := 0) H239 rfl rfl Tryz.sizeOf61 rfl rfl rfl rfl ?_)
  intro w240 H241
  refine WL.nil (Fin.then (Wp.seq (Wp.region (Mv rfl rfl (Kn (v := .pointer (some ⟨g237, 0, none⟩)) rfl rfl rfl (fun _ => by kernel_rfl) (WL.val (v := .int .u64 ((x233.xSeq : Nat) : Int)) rfl (Yl.load rfl (Lds.one Tryz.isAgg57 (Cls.of (H241.cls (i := 0) rfl) rfl))) ?_))))))
  obtain ⟨r247, hr248⟩ : ∃ q, r01_Num x233.xSeq = q := ⟨_, rfl⟩
  obtain ⟨D242, HP243, ro244, bk245, rr246⟩ := Own.enter0 H241
  refine WL.do rfl (Do.call Tryz.call41 rfl (r01_Num_ok _ _ x233.xSeq r247 HP243 (by omega) hr248) ?_)
  rintro _ w249 ⟨A252, c253, rfl, HQ250, hk254, hk255⟩
  have H251 := bk245 _ _ HQ250
  have hb256 := H251.rowC (i := 0) rfl
  replace hk254 : RecN x233.xSeq r247.length := hk254
  replace hk255 : 1 ≤ r247.length ∧ r247.length ≤ 10 := hk255
  have H257 := H251.pick [3, 0, 1, 2] (by decide) rfl
  refine WL.do rfl (Do.appendW (k := l222.length) (m := r247.length) (El29) H257 rfl rfl (src_of Tryz.underlying29 (H257.rds (i := 1) rfl) (flat_one eB_one r247)) rfl (by omega) (s := List.length (l222 ++ r247)) (by first | omega | (simp only [List.length_append, List.length_cons, List.length_nil] <;> omega)) (List.flatMap_append).symm ?_)
  intro A258 c259 w260 H261
  have hl262 : List.length (l222 ++ r247) = l222.length + r247.length := by simp only [List.length_append, List.length_cons, List.length_nil]
  refine As rfl rfl (WL.nil (Fin.then (Wp.seq (Wp.region (Mv rfl rfl (Kn (v := .pointer (some ⟨g237, 1, none⟩)) rfl rfl rfl (fun _ => by kernel_rfl) (Kn (v := .pointer (some ⟨g237, 1, none⟩)) rfl rfl rfl (fun _ => by kernel_rfl) (WL.val (v := .int .i64 x233.xOp.xKind) rfl (Yl.load rfl (Lds.one Tryz.isAgg3 (Cls.of (H261.cls (i := 2) rfl) rfl))) (WL.val (v := .int .u8 (((u8I x233.xOp.xKind).toNat : Nat) : Int)) rfl (Yl.int (e := IntKind.u8.wrap x233.xOp.xKind) (Yl.kern rfl rfl (fun _ => by kernel_rfl)) (u8I_wrap _)) ?_)))))))))
  refine WL.do rfl (Do.newRow (cs := [.int .u8 (((u8I x233.xOp.xKind).toNat : Nat) : Int)]) (t := 5) (sz := 1) (m := 1) H261 rfl rfl (fun _ => by kernel_rfl) rfl (by decide) ?_)
  intro A263 w264 H265
  replace H265 : Own w D w264 [row A263 1 1 (List.flatMap eB ([(u8I x233.xOp.xKind)])) 5 1, row A258 (List.length (l222 ++ r247)) c259 (List.flatMap eB (l222 ++ r247)) 5 1, row A252 r247.length c253 (List.flatMap eB r247) 5 1, blk g237 (EntryD.cells x233) 61, blk g21 [.bool p0.xLeaf, .slice A0x0 p0.xPairs.ls.length c0x0, .slice A0x1 p0.xKids.ls.length c0x1, .slice A0x2 p0.xPivots.ls.length c0x2, .slice A0x3 p0.xBuffers.ls.length c0x3] 27] := H265
  have H266 : Own w D w264 [row A258 (List.length (l222 ++ r247)) c259 (List.flatMap eB (l222 ++ r247)) 5 1, row A263 1 1 (List.flatMap eB ([(u8I x233.xOp.xKind)])) 5 1, row A252 r247.length c253 (List.flatMap eB r247) 5 1, blk g237 (EntryD.cells x233) 61, blk g21 [.bool p0.xLeaf, .slice A0x0 p0.xPairs.ls.length c0x0, .slice A0x1 p0.xKids.ls.length c0x1, .slice A0x2 p0.xPivots.ls.length c0x2, .slice A0x3 p0.xBuffers.ls.length c0x3] 27] := H265.pick [1, 0, 2, 3, 4] (by decide) rfl
  refine WL.do rfl (Do.appendW (k := List.length (l222 ++ r247)) (m := 1) (El29) H266 rfl rfl (src_of Tryz.underlying29 (H266.rds (i := 1) rfl) (flat_one eB_one ([(u8I x233.xOp.xKind)]))) rfl (by omega) (s := List.length ((l222 ++ r247) ++ [(u8I x233.xOp.xKind)])) (by first | omega | (simp only [List.length_append, List.length_cons, List.length_nil] <;> omega)) (List.flatMap_append).symm ?_)
  intro A267 c268 w269 H270
  have hl271 : List.length ((l222 ++ r247) ++ [(u8I x233.xOp.xKind)]) = (List.length (l222 ++ r247)) + 1 := by simp only [List.length_append, List.length_cons, List.length_nil]
  refine As rfl rfl (WL.nil (Fin.then (Wp.seq (Wp.region (Kn (v := .pointer (some ⟨g237, 1, none⟩)) rfl rfl rfl (fun _ => by kernel_rfl) (Kn (v := .pointer (some ⟨g237, 1, none⟩)) rfl rfl rfl (fun _ => by kernel_rfl) (WL.val (v := .int .i64 x233.xOp.xKind) rfl (Yl.load rfl (Lds.one Tryz.isAgg3 (Cls.of (H270.cls (i := 3) rfl) rfl))) (WL.nil (Fin.then (Wp.block (Wp.seq (Wp.region (Kn (v := .bool (decide (x233.xOp.xKind = 2))) rfl rfl rfl (fun _ => by kernel_rfl) (As rfl rfl (WL.nil (Fin.then ?_))))))))))))))))
  by_cases h272 : x233.xOp.xKind = 2
  refine Wp.cond1 rfl (decide_eq_true h272) ?_
  have H273 : Own w D w269 [row A263 1 1 (List.flatMap eB ([(u8I x233.xOp.xKind)])) 5 1, row A252 r247.length c253 (List.flatMap eB r247) 5 1, blk g237 (EntryD.cells x233) 61, blk g21 [.bool p0.xLeaf, .slice A0x0 p0.xPairs.ls.length c0x0, .slice A0x1 p0.xKids.ls.length c0x1, .slice A0x2 p0.xPivots.ls.length c0x2, .slice A0x3 p0.xBuffers.ls.length c0x3] 27, row A267 (List.length ((l222 ++ r247) ++ [(u8I x233.xOp.xKind)])) c268 (List.flatMap eB ((l222 ++ r247) ++ [(u8I x233.xOp.xKind)])) 5 1] := H270.pick [1, 2, 3, 4, 0] (by decide) rfl
  have H275 := H273.drew
  refine Wp.drawnX [] (fun W => ∃ L', Own w D W ([row A263 1 1 (List.flatMap eB ([(u8I x233.xOp.xKind)])) 5 1, row A252 r247.length c253 (List.flatMap eB r247) 5 1, blk g237 (EntryD.cells x233) 61, blk g21 [.bool p0.xLeaf, .slice A0x0 p0.xPairs.ls.length c0x0, .slice A0x1 p0.xKids.ls.length c0x1, .slice A0x2 p0.xPivots.ls.length c0x2, .slice A0x3 p0.xBuffers.ls.length c0x3] 27] ++ L')) (by kernel_rfl) (by kernel_rfl) (NoP.block (NoP.block (NoP.then (NoP.then (NoP.block (NoP.block (NoP.then (NoP.then (NoP.block (NoP.then NoP.base)))))))))) ⟨_, H275⟩ ?_
  revert H275
  generalize World.drew w269 = w274
  intro H275
  refine GX.take (v := .slice A267 (List.length ((l222 ++ r247) ++ [(u8I x233.xOp.xKind)])) c268) (rs := []) 0 rfl (by kernel_rfl) (fun _ _ => Yl.move rfl) (GX.take (v := .pointer (some ⟨g237, 1, none⟩)) (rs := []) 1 rfl (by kernel_rfl) (fun _ _ => Yl.kern rfl rfl (fun _ => by kernel_rfl)) (GX.take (v := .pointer (some ⟨g237, 2, none⟩)) (rs := []) 2 rfl (by kernel_rfl) (fun _ _ => Yl.kern rfl rfl (fun _ => by kernel_rfl)) (GX.take (v := .string ⟨List.toArray x233.xOp.xKey⟩) (rs := []) 3 rfl (by kernel_rfl) (fun _ ⟨_, H9⟩ => Yl.load rfl (Lds.one Tryz.isAgg9 (Cls.of (H9.cls (i := 2) rfl) rfl))) (GX.take (v := .pointer (some ⟨g237, 1, none⟩)) (rs := []) 5 rfl (by kernel_rfl) (fun _ _ => Yl.kern rfl rfl (fun _ => by kernel_rfl)) (GX.take (v := .pointer (some ⟨g237, 3, none⟩)) (rs := []) 6 rfl (by kernel_rfl) (fun _ _ => Yl.kern rfl rfl (fun _ => by kernel_rfl)) (GX.take (v := .string ⟨List.toArray x233.xOp.xValue⟩) (rs := []) 7 rfl (by kernel_rfl) (fun _ ⟨_, H9⟩ => Yl.load rfl (Lds.one Tryz.isAgg9 (Cls.of (H9.cls (i := 2) rfl) rfl))) ?_))))))
  have H276 : Own w D w274 [row A267 (List.length ((l222 ++ r247) ++ [(u8I x233.xOp.xKind)])) c268 (List.flatMap eB ((l222 ++ r247) ++ [(u8I x233.xOp.xKind)])) 5 1, row A263 1 1 (List.flatMap eB ([(u8I x233.xOp.xKind)])) 5 1, row A252 r247.length c253 (List.flatMap eB r247) 5 1, blk g237 (EntryD.cells x233) 61, blk g21 [.bool p0.xLeaf, .slice A0x0 p0.xPairs.ls.length c0x0, .slice A0x1 p0.xKids.ls.length c0x1, .slice A0x2 p0.xPivots.ls.length c0x2, .slice A0x3 p0.xBuffers.ls.length c0x3] 27] := H275.pick [4, 0, 1, 2, 3] (by decide) rfl
  obtain ⟨r282, hr283⟩ : ∃ q, r13_text ((l222 ++ r247) ++ [(u8I x233.xOp.xKind)]) x233.xOp.xKey = q := ⟨_, rfl⟩
  obtain ⟨D277, HP278, ro279, bk280, rr281⟩ := Own.enter1 H276
  refine GX.do 4 rfl (by kernel_rfl) (Do.call Tryz.call40 rfl (r13_text_ok _ _ A267 (List.length ((l222 ++ r247) ++ [(u8I x233.xOp.xKind)])) c268 ((l222 ++ r247) ++ [(u8I x233.xOp.xKind)]) x233.xOp.xKey r282 HP278 rfl (by first | omega | (simp only [List.length_append, List.length_cons, List.length_nil, List.length_take, List.length_drop, List.length_set]; omega)) (by first | omega | (simp only [List.length_cons, List.length_nil, List.length_append]; omega)) hr283) ?_)
  rintro _ w284 ⟨A287, c288, rfl, HQ285, hk289⟩
  have H286 : Own w D w284 [row A287 r282.length c288 (List.flatMap eB r282) 5 1, row A263 1 1 (List.flatMap eB ([(u8I x233.xOp.xKind)])) 5 1, row A252 r247.length c253 (List.flatMap eB r247) 5 1, blk g237 (EntryD.cells x233) 61, blk g21 [.bool p0.xLeaf, .slice A0x0 p0.xPairs.ls.length c0x0, .slice A0x1 p0.xKids.ls.length c0x1, .slice A0x2 p0.xPivots.ls.length c0x2, .slice A0x3 p0.xBuffers.ls.length c0x3] 27] := bk280 _ _ HQ285
  have hb290 := H286.rowC (i := 0) rfl
  replace hk289 : r282.length ≤ List.length ((l222 ++ r247) ++ [(u8I x233.xOp.xKind)]) + x233.xOp.xKey.length + 10 := hk289
  have H291 : Own w D w284 [row A263 1 1 (List.flatMap eB ([(u8I x233.xOp.xKind)])) 5 1, row A252 r247.length c253 (List.flatMap eB r247) 5 1, blk g237 (EntryD.cells x233) 61, blk g21 [.bool p0.xLeaf, .slice A0x0 p0.xPairs.ls.length c0x0, .slice A0x1 p0.xKids.ls.length c0x1, .slice A0x2 p0.xPivots.ls.length c0x2, .slice A0x3 p0.xBuffers.ls.length c0x3] 27, row A287 r282.length c288 (List.flatMap eB r282) 5 1] := H286.pick [1, 2, 3, 4, 0] (by decide) rfl
  refine ⟨.inr ⟨_, H291⟩, ?_⟩
  have H292 : Own w D w284 [row A287 r282.length c288 (List.flatMap eB r282) 5 1, row A263 1 1 (List.flatMap eB ([(u8I x233.xOp.xKind)])) 5 1, row A252 r247.length c253 (List.flatMap eB r247) 5 1, blk g237 (EntryD.cells x233) 61, blk g21 [.bool p0.xLeaf, .slice A0x0 p0.xPairs.ls.length c0x0, .slice A0x1 p0.xKids.ls.length c0x1, .slice A0x2 p0.xPivots.ls.length c0x2, .slice A0x3 p0.xBuffers.ls.length c0x3] 27] := H291.pick [4, 0, 1, 2, 3] (by decide) rfl
  obtain ⟨r298, hr299⟩ : ∃ q, r13_text r282 x233.xOp.xValue = q := ⟨_, rfl⟩
  obtain ⟨D293, HP294, ro295, bk296, rr297⟩ := Own.enter1 H292
  refine GX.do 8 rfl (by kernel_rfl) (Do.call Tryz.call40 rfl (r13_text_ok _ _ A287 r282.length c288 r282 x233.xOp.xValue r298 HP294 rfl (by omega) (by first | omega | (simp only [List.length_cons, List.length_nil, List.length_append]; omega)) hr299) ?_)
  rintro _ w300 ⟨A303, c304, rfl, HQ301, hk305⟩
  have H302 : Own w D w300 [row A303 r298.length c304 (List.flatMap eB r298) 5 1, row A263 1 1 (List.flatMap eB ([(u8I x233.xOp.xKind)])) 5 1, row A252 r247.length c253 (List.flatMap eB r247) 5 1, blk g237 (EntryD.cells x233) 61, blk g21 [.bool p0.xLeaf, .slice A0x0 p0.xPairs.ls.length c0x0, .slice A0x1 p0.xKids.ls.length c0x1, .slice A0x2 p0.xPivots.ls.length c0x2, .slice A0x3 p0.xBuffers.ls.length c0x3] 27] := bk296 _ _ HQ301
  have hb306 := H302.rowC (i := 0) rfl
  replace hk305 : r298.length ≤ r282.length + x233.xOp.xValue.length + 10 := hk305
  have H307 : Own w D w300 [row A263 1 1 (List.flatMap eB ([(u8I x233.xOp.xKind)])) 5 1, row A252 r247.length c253 (List.flatMap eB r247) 5 1, blk g237 (EntryD.cells x233) 61, blk g21 [.bool p0.xLeaf, .slice A0x0 p0.xPairs.ls.length c0x0, .slice A0x1 p0.xKids.ls.length c0x1, .slice A0x2 p0.xPivots.ls.length c0x2, .slice A0x3 p0.xBuffers.ls.length c0x3] 27, row A303 r298.length c304 (List.flatMap eB r298) 5 1] := H302.pick [1, 2, 3, 4, 0] (by decide) rfl
  refine ⟨.inr ⟨_, H307⟩, ?_⟩
  refine GX.take (v := .slice A303 r298.length c304) (rs := []) 9 rfl (by kernel_rfl) (fun _ _ => Yl.assign rfl) (GX.done (by kernel_rfl) (Fin.blockN (Fin.blockN (Fin.then (Wp.region (WL.val (v := .int .i64 ((k223 + 1 : Nat) : Int)) rfl (Yl.int (e := IntKind.i64.wrap (((k223 : Nat) : Int) + 1)) (Yl.kern rfl rfl (fun _ => by kernel_rfl)) (by rw [IntWalk.i64_in _ (by omega)]; omega)) (Mv rfl rfl (WL.nil ?_))))))))
  have H308 := H307.pick [3, 4] (by decide) rfl
  exact Fin.round (A303, c304, r298, k223 + 1) ⟨rfl, rfl, rfl, rfl, rfl, rfl, rfl, rfl, rfl, rfl, rfl, rfl, rfl, rfl, rfl, rfl, trivial⟩ ⟨H308, (show (k223 + 1) ≤ x199.ls.length ∧ ((r298.length : Nat) : Int) ≤ ((r211.length : Nat) : Int) + 2097183 * (((k223 + 1) : Nat) : Int) ∧ r13_whole_L4 x199.ls r211 = r13_whole_L4 (List.drop (k223 + 1) x199.ls) r298 from ⟨by omega, by omega, Eq.trans (hq229) (Eq.trans (congrArg (fun q => r13_whole_L4 q l222) hd236) (Eq.trans (bnd_of hr248) (Eq.trans (if_pos h272) (Eq.trans (bnd_of hr283) (bnd_of hr299)))))⟩)⟩ (by show x199.ls.length - (k223 + 1) < x199.ls.length - k223; omega)
  refine Wp.cond0 rfl (decide_eq_false h272) (Wp.seq (Wp.region (Kn (v := .bool (decide (x233.xOp.xKind = 3))) rfl rfl rfl (fun _ => by kernel_rfl) (As rfl rfl (WL.nil (Fin.then ?_))))))
  by_cases h309 : x233.xOp.xKind = 3
  refine Wp.cond1 rfl (decide_eq_true h309) (Wp.region (Mv rfl rfl (Kn (v := .pointer (some ⟨g237, 1, none⟩)) rfl rfl rfl (fun _ => by kernel_rfl) (Kn (v := .pointer (some ⟨g237, 2, none⟩)) rfl rfl rfl (fun _ => by kernel_rfl) (WL.val (v := .string ⟨List.toArray x233.xOp.xKey⟩) rfl (Yl.load rfl (Lds.one Tryz.isAgg9 (Cls.of (H270.cls (i := 3) rfl) rfl))) ?_)))))
  obtain ⟨r315, hr316⟩ : ∃ q, r13_text ((l222 ++ r247) ++ [(u8I x233.xOp.xKind)]) x233.xOp.xKey = q := ⟨_, rfl⟩
  obtain ⟨D310, HP311, ro312, bk313, rr314⟩ := Own.enter1 H270
  refine WL.do rfl (Do.call Tryz.call40 rfl (r13_text_ok _ _ A267 (List.length ((l222 ++ r247) ++ [(u8I x233.xOp.xKind)])) c268 ((l222 ++ r247) ++ [(u8I x233.xOp.xKind)]) x233.xOp.xKey r315 HP311 rfl (by first | omega | (simp only [List.length_append, List.length_cons, List.length_nil, List.length_take, List.length_drop, List.length_set]; omega)) (by first | omega | (simp only [List.length_cons, List.length_nil, List.length_append]; omega)) hr316) ?_)
  rintro _ w317 ⟨A320, c321, rfl, HQ318, hk322⟩
  have H319 : Own w D w317 [row A320 r315.length c321 (List.flatMap eB r315) 5 1, row A263 1 1 (List.flatMap eB ([(u8I x233.xOp.xKind)])) 5 1, row A252 r247.length c253 (List.flatMap eB r247) 5 1, blk g237 (EntryD.cells x233) 61, blk g21 [.bool p0.xLeaf, .slice A0x0 p0.xPairs.ls.length c0x0, .slice A0x1 p0.xKids.ls.length c0x1, .slice A0x2 p0.xPivots.ls.length c0x2, .slice A0x3 p0.xBuffers.ls.length c0x3] 27] := bk313 _ _ HQ318
  have hb323 := H319.rowC (i := 0) rfl
  replace hk322 : r315.length ≤ List.length ((l222 ++ r247) ++ [(u8I x233.xOp.xKind)]) + x233.xOp.xKey.length + 10 := hk322
  refine As rfl rfl (WL.nil (Fin.blockN (Fin.blockN (Fin.then (Wp.region (WL.val (v := .int .i64 ((k223 + 1 : Nat) : Int)) rfl (Yl.int (e := IntKind.i64.wrap (((k223 : Nat) : Int) + 1)) (Yl.kern rfl rfl (fun _ => by kernel_rfl)) (by rw [IntWalk.i64_in _ (by omega)]; omega)) (Mv rfl rfl (WL.nil ?_))))))))
  have H324 := H319.pick [4, 0] (by decide) rfl
  exact Fin.round (A320, c321, r315, k223 + 1) ⟨rfl, rfl, rfl, rfl, rfl, rfl, rfl, rfl, rfl, rfl, rfl, rfl, rfl, rfl, rfl, rfl, trivial⟩ ⟨H324, (show (k223 + 1) ≤ x199.ls.length ∧ ((r315.length : Nat) : Int) ≤ ((r211.length : Nat) : Int) + 2097183 * (((k223 + 1) : Nat) : Int) ∧ r13_whole_L4 x199.ls r211 = r13_whole_L4 (List.drop (k223 + 1) x199.ls) r315 from ⟨by omega, by omega, Eq.trans (hq229) (Eq.trans (congrArg (fun q => r13_whole_L4 q l222) hd236) (Eq.trans (bnd_of hr248) (Eq.trans (if_neg h272) (Eq.trans (if_pos h309) (bnd_of hr316)))))⟩)⟩ (by show x199.ls.length - (k223 + 1) < x199.ls.length - k223; omega)
  refine Wp.cond0 rfl (decide_eq_false h309) ?_
  have H325 : Own w D w269 [row A263 1 1 (List.flatMap eB ([(u8I x233.xOp.xKind)])) 5 1, row A252 r247.length c253 (List.flatMap eB r247) 5 1, blk g237 (EntryD.cells x233) 61, blk g21 [.bool p0.xLeaf, .slice A0x0 p0.xPairs.ls.length c0x0, .slice A0x1 p0.xKids.ls.length c0x1, .slice A0x2 p0.xPivots.ls.length c0x2, .slice A0x3 p0.xBuffers.ls.length c0x3] 27, row A267 (List.length ((l222 ++ r247) ++ [(u8I x233.xOp.xKind)])) c268 (List.flatMap eB ((l222 ++ r247) ++ [(u8I x233.xOp.xKind)])) 5 1] := H270.pick [1, 2, 3, 4, 0] (by decide) rfl
  have H327 := H325.drew
  refine Wp.drawnX [] (fun W => ∃ L', Own w D W ([row A263 1 1 (List.flatMap eB ([(u8I x233.xOp.xKind)])) 5 1, row A252 r247.length c253 (List.flatMap eB r247) 5 1, blk g237 (EntryD.cells x233) 61, blk g21 [.bool p0.xLeaf, .slice A0x0 p0.xPairs.ls.length c0x0, .slice A0x1 p0.xKids.ls.length c0x1, .slice A0x2 p0.xPivots.ls.length c0x2, .slice A0x3 p0.xBuffers.ls.length c0x3] 27] ++ L')) (by kernel_rfl) (by kernel_rfl) (NoP.block (NoP.block (NoP.then (NoP.then (NoP.block (NoP.block (NoP.then (NoP.then (NoP.block (NoP.then NoP.base)))))))))) ⟨_, H327⟩ ?_
  revert H327
  generalize World.drew w269 = w326
  intro H327
  refine GX.take (v := .slice A267 (List.length ((l222 ++ r247) ++ [(u8I x233.xOp.xKind)])) c268) (rs := []) 0 rfl (by kernel_rfl) (fun _ _ => Yl.move rfl) (GX.take (v := .pointer (some ⟨g237, 1, none⟩)) (rs := []) 1 rfl (by kernel_rfl) (fun _ _ => Yl.kern rfl rfl (fun _ => by kernel_rfl)) (GX.take (v := .pointer (some ⟨g237, 4, none⟩)) (rs := []) 2 rfl (by kernel_rfl) (fun _ _ => Yl.kern rfl rfl (fun _ => by kernel_rfl)) (GX.take (v := .string ⟨List.toArray x233.xOp.xLo⟩) (rs := []) 3 rfl (by kernel_rfl) (fun _ ⟨_, H9⟩ => Yl.load rfl (Lds.one Tryz.isAgg9 (Cls.of (H9.cls (i := 2) rfl) rfl))) (GX.take (v := .pointer (some ⟨g237, 1, none⟩)) (rs := []) 5 rfl (by kernel_rfl) (fun _ _ => Yl.kern rfl rfl (fun _ => by kernel_rfl)) (GX.take (v := .pointer (some ⟨g237, 5, none⟩)) (rs := []) 6 rfl (by kernel_rfl) (fun _ _ => Yl.kern rfl rfl (fun _ => by kernel_rfl)) (GX.take (v := .string ⟨List.toArray x233.xOp.xHi⟩) (rs := []) 7 rfl (by kernel_rfl) (fun _ ⟨_, H9⟩ => Yl.load rfl (Lds.one Tryz.isAgg9 (Cls.of (H9.cls (i := 2) rfl) rfl))) ?_))))))
  have H328 : Own w D w326 [row A267 (List.length ((l222 ++ r247) ++ [(u8I x233.xOp.xKind)])) c268 (List.flatMap eB ((l222 ++ r247) ++ [(u8I x233.xOp.xKind)])) 5 1, row A263 1 1 (List.flatMap eB ([(u8I x233.xOp.xKind)])) 5 1, row A252 r247.length c253 (List.flatMap eB r247) 5 1, blk g237 (EntryD.cells x233) 61, blk g21 [.bool p0.xLeaf, .slice A0x0 p0.xPairs.ls.length c0x0, .slice A0x1 p0.xKids.ls.length c0x1, .slice A0x2 p0.xPivots.ls.length c0x2, .slice A0x3 p0.xBuffers.ls.length c0x3] 27] := H327.pick [4, 0, 1, 2, 3] (by decide) rfl
  obtain ⟨r334, hr335⟩ : ∃ q, r13_text ((l222 ++ r247) ++ [(u8I x233.xOp.xKind)]) x233.xOp.xLo = q := ⟨_, rfl⟩
  obtain ⟨D329, HP330, ro331, bk332, rr333⟩ := Own.enter1 H328
  refine GX.do 4 rfl (by kernel_rfl) (Do.call Tryz.call40 rfl (r13_text_ok _ _ A267 (List.length ((l222 ++ r247) ++ [(u8I x233.xOp.xKind)])) c268 ((l222 ++ r247) ++ [(u8I x233.xOp.xKind)]) x233.xOp.xLo r334 HP330 rfl (by first | omega | (simp only [List.length_append, List.length_cons, List.length_nil, List.length_take, List.length_drop, List.length_set]; omega)) (by first | omega | (simp only [List.length_cons, List.length_nil, List.length_append]; omega)) hr335) ?_)
  rintro _ w336 ⟨A339, c340, rfl, HQ337, hk341⟩
  have H338 : Own w D w336 [row A339 r334.length c340 (List.flatMap eB r334) 5 1, row A263 1 1 (List.flatMap eB ([(u8I x233.xOp.xKind)])) 5 1, row A252 r247.length c253 (List.flatMap eB r247) 5 1, blk g237 (EntryD.cells x233) 61, blk g21 [.bool p0.xLeaf, .slice A0x0 p0.xPairs.ls.length c0x0, .slice A0x1 p0.xKids.ls.length c0x1, .slice A0x2 p0.xPivots.ls.length c0x2, .slice A0x3 p0.xBuffers.ls.length c0x3] 27] := bk332 _ _ HQ337
  have hb342 := H338.rowC (i := 0) rfl
  replace hk341 : r334.length ≤ List.length ((l222 ++ r247) ++ [(u8I x233.xOp.xKind)]) + x233.xOp.xLo.length + 10 := hk341
  have H343 : Own w D w336 [row A263 1 1 (List.flatMap eB ([(u8I x233.xOp.xKind)])) 5 1, row A252 r247.length c253 (List.flatMap eB r247) 5 1, blk g237 (EntryD.cells x233) 61, blk g21 [.bool p0.xLeaf, .slice A0x0 p0.xPairs.ls.length c0x0, .slice A0x1 p0.xKids.ls.length c0x1, .slice A0x2 p0.xPivots.ls.length c0x2, .slice A0x3 p0.xBuffers.ls.length c0x3] 27, row A339 r334.length c340 (List.flatMap eB r334) 5 1] := H338.pick [1, 2, 3, 4, 0] (by decide) rfl
  refine ⟨.inr ⟨_, H343⟩, ?_⟩
  have H344 : Own w D w336 [row A339 r334.length c340 (List.flatMap eB r334) 5 1, row A263 1 1 (List.flatMap eB ([(u8I x233.xOp.xKind)])) 5 1, row A252 r247.length c253 (List.flatMap eB r247) 5 1, blk g237 (EntryD.cells x233) 61, blk g21 [.bool p0.xLeaf, .slice A0x0 p0.xPairs.ls.length c0x0, .slice A0x1 p0.xKids.ls.length c0x1, .slice A0x2 p0.xPivots.ls.length c0x2, .slice A0x3 p0.xBuffers.ls.length c0x3] 27] := H343.pick [4, 0, 1, 2, 3] (by decide) rfl
  obtain ⟨r350, hr351⟩ : ∃ q, r13_text r334 x233.xOp.xHi = q := ⟨_, rfl⟩
  obtain ⟨D345, HP346, ro347, bk348, rr349⟩ := Own.enter1 H344
  refine GX.do 8 rfl (by kernel_rfl) (Do.call Tryz.call40 rfl (r13_text_ok _ _ A339 r334.length c340 r334 x233.xOp.xHi r350 HP346 rfl (by omega) (by first | omega | (simp only [List.length_cons, List.length_nil, List.length_append]; omega)) hr351) ?_)
  rintro _ w352 ⟨A355, c356, rfl, HQ353, hk357⟩
  have H354 : Own w D w352 [row A355 r350.length c356 (List.flatMap eB r350) 5 1, row A263 1 1 (List.flatMap eB ([(u8I x233.xOp.xKind)])) 5 1, row A252 r247.length c253 (List.flatMap eB r247) 5 1, blk g237 (EntryD.cells x233) 61, blk g21 [.bool p0.xLeaf, .slice A0x0 p0.xPairs.ls.length c0x0, .slice A0x1 p0.xKids.ls.length c0x1, .slice A0x2 p0.xPivots.ls.length c0x2, .slice A0x3 p0.xBuffers.ls.length c0x3] 27] := bk348 _ _ HQ353
  have hb358 := H354.rowC (i := 0) rfl
  replace hk357 : r350.length ≤ r334.length + x233.xOp.xHi.length + 10 := hk357
  have H359 : Own w D w352 [row A263 1 1 (List.flatMap eB ([(u8I x233.xOp.xKind)])) 5 1, row A252 r247.length c253 (List.flatMap eB r247) 5 1, blk g237 (EntryD.cells x233) 61, blk g21 [.bool p0.xLeaf, .slice A0x0 p0.xPairs.ls.length c0x0, .slice A0x1 p0.xKids.ls.length c0x1, .slice A0x2 p0.xPivots.ls.length c0x2, .slice A0x3 p0.xBuffers.ls.length c0x3] 27, row A355 r350.length c356 (List.flatMap eB r350) 5 1] := H354.pick [1, 2, 3, 4, 0] (by decide) rfl
  refine ⟨.inr ⟨_, H359⟩, ?_⟩
  refine GX.take (v := .slice A355 r350.length c356) (rs := []) 9 rfl (by kernel_rfl) (fun _ _ => Yl.assign rfl) (GX.done (by kernel_rfl) (Fin.blockN (Fin.blockN (Fin.then (Wp.region (WL.val (v := .int .i64 ((k223 + 1 : Nat) : Int)) rfl (Yl.int (e := IntKind.i64.wrap (((k223 : Nat) : Int) + 1)) (Yl.kern rfl rfl (fun _ => by kernel_rfl)) (by rw [IntWalk.i64_in _ (by omega)]; omega)) (Mv rfl rfl (WL.nil ?_))))))))
  have H360 := H359.pick [3, 4] (by decide) rfl
  exact Fin.round (A355, c356, r350, k223 + 1) ⟨rfl, rfl, rfl, rfl, rfl, rfl, rfl, rfl, rfl, rfl, rfl, rfl, rfl, rfl, rfl, rfl, trivial⟩ ⟨H360, (show (k223 + 1) ≤ x199.ls.length ∧ ((r350.length : Nat) : Int) ≤ ((r211.length : Nat) : Int) + 2097183 * (((k223 + 1) : Nat) : Int) ∧ r13_whole_L4 x199.ls r211 = r13_whole_L4 (List.drop (k223 + 1) x199.ls) r350 from ⟨by omega, by omega, Eq.trans (hq229) (Eq.trans (congrArg (fun q => r13_whole_L4 q l222) hd236) (Eq.trans (bnd_of hr248) (Eq.trans (if_neg h272) (Eq.trans (if_neg h309) (Eq.trans (bnd_of hr335) (bnd_of hr351))))))⟩)⟩ (by show x199.ls.length - (k223 + 1) < x199.ls.length - k223; omega)
  refine Wp.cond0 rfl (decide_eq_false h232) (Wp.exit (Fin.thenX ?_))
  have hL361 : r13_whole_L4 x199.ls r211 = l222 := Eq.trans (hq229) (Eq.trans (congrArg (fun q => r13_whole_L4 q l222) (drop_end (ls := x199.ls) (i := k223) (by omega))) rfl)
  refine Fin.thenX (Fin.blockX (Fin.blockN (Fin.then (Wp.region (WL.val (v := .int .i64 ((k189 + 1 : Nat) : Int)) rfl (Yl.int (e := IntKind.i64.wrap (((k189 : Nat) : Int) + 1)) (Yl.kern rfl rfl (fun _ => by kernel_rfl)) (by rw [IntWalk.i64_in _ (by omega)]; omega)) (Mv rfl rfl (WL.nil ?_)))))))
  have H362 := H227.pick [0, 1] (by decide) rfl
  exact Fin.round (A220, c221, l222, k189 + 1) ⟨rfl, rfl, rfl, rfl, rfl, trivial⟩ ⟨H362, (show (k189 + 1) ≤ p0.xBuffers.ls.length ∧ ((l222.length : Nat) : Int) ≤ 8388779 + 2199055761418 * (((k189 + 1) : Nat) : Int) ∧ r13_whole_L3 p0.xBuffers.ls l154 = r13_whole_L3 (List.drop (k189 + 1) p0.xBuffers.ls) l222 from ⟨by omega, by omega, Eq.trans (hq195) (Eq.trans (congrArg (fun q => r13_whole_L3 q l188) hd204) (Eq.trans (bnd_of hr212) (bnd_of hL361)))⟩)⟩ (by show p0.xBuffers.ls.length - (k189 + 1) < p0.xBuffers.ls.length - k189; omega)
  refine Wp.cond0 rfl (decide_eq_false h198) (Wp.exit (Fin.thenX ?_))
  have hL363 : r13_whole_L3 p0.xBuffers.ls l154 = l188 := Eq.trans (hq195) (Eq.trans (congrArg (fun q => r13_whole_L3 q l188) (drop_end (ls := p0.xBuffers.ls) (i := k189) (by omega))) rfl)
  refine Fin.thenX (Fin.blockX (Fin.then (Wp.seq (Wp.region (Mv rfl rfl (As rfl rfl (WL.nil (Fin.then (Wp.ret (Fin.res (res1 rfl rfl) ?_))))))))))
  have H364 := H193.pick [1] (by decide) rfl
  have e : r13_whole p0 = l188 := Eq.trans (ifF h24) (Eq.trans (bnd_of hr110) (Eq.trans (bnd_of hL151) (Eq.trans (bnd_of hL185) (bnd_of hL363))))
  obtain rfl := e.symm.trans hr
  exact ⟨A186, c187, rfl, H364, (by omega)⟩

def r13_Size (p0 : NodeT) : Int × Int :=
  bnd (r13_Check p0) fun yr29 => if yr29 = 0 then bnd (r13_whole p0) fun yr41 => (((yr41.length : Nat) : Int), 0) else (0, yr29)

set_option maxRecDepth 100000 in
theorem r13_Size_ok (w : World) (D : Nat → Prop) (p0 : NodeT) (A0x0 : Option Addr) (n0x0 c0x0 : Nat) (A0x1 : Option Addr) (n0x1 c0x1 : Nat) (A0x2 : Option Addr) (n0x2 c0x2 : Nat) (A0x3 : Option Addr) (n0x3 c0x3 : Nat) (d0x3 : List Row46D) (r0 : Int) (r1 : Int) (H : Own w D w []) (hn0x0 : n0x0 = p0.xPairs.ls.length) (hx0x0 : Ro w D fun w' => Rds w' 2 A0x0 p0.xPairs.ls.length (List.flatMap PairD.cells p0.xPairs.ls)) (hb0x0 : p0.xPairs.ls.length ≤ c0x0 ∧ p0.xPairs.ls.length ≤ 9223372036854775807) (hn0x1 : n0x1 = p0.xKids.ls.length) (hx0x1 : Ro w D fun w' => Rds w' 1 A0x1 p0.xKids.ls.length (List.flatMap (eI .i64) p0.xKids.ls)) (hb0x1 : p0.xKids.ls.length ≤ c0x1 ∧ p0.xKids.ls.length ≤ 9223372036854775807) (hn0x2 : n0x2 = p0.xPivots.ls.length) (hx0x2 : Ro w D fun w' => Rds w' 1 A0x2 p0.xPivots.ls.length (List.flatMap eS p0.xPivots.ls)) (hb0x2 : p0.xPivots.ls.length ≤ c0x2 ∧ p0.xPivots.ls.length ≤ 9223372036854775807) (hd0x3 : List.map Row46D.abs d0x3 = p0.xBuffers.ls) (hn0x3 : n0x3 = p0.xBuffers.ls.length) (hx0x3 : Ro w D fun w' => Rds w' 1 A0x3 p0.xBuffers.ls.length (List.flatMap (Sv.enc (β := EntryD)) d0x3)) (hb0x3 : p0.xBuffers.ls.length ≤ c0x3 ∧ p0.xBuffers.ls.length ≤ 9223372036854775807) (hm0x3 : ∀ x ∈ d0x3, Ro w D (fun w' => Rds w' 7 x.A x.ls.length (List.flatMap EntryD.cells x.ls)) ∧ x.ls.length ≤ 9223372036854775807) (hh0 : ((p0.xPairs.ls.length ≤ 1048576 ∧ ∀ x ∈ p0.xPairs.ls, x.xKey.length ≤ 1048576 ∧ x.xValue.length ≤ 1048576) ∧ (∀ x ∈ p0.xPivots.ls, x.length ≤ 1048576) ∧ ∀ b ∈ p0.xBuffers.ls, b.ls.length ≤ 1048576 ∧ ∀ x ∈ b.ls, x.xSeq ≤ 18446744073709551615 ∧ x.xOp.xKey.length ≤ 1048576 ∧ x.xOp.xValue.length ≤ 1048576 ∧ x.xOp.xLo.length ≤ 1048576 ∧ x.xOp.xHi.length ≤ 1048576)) (hr : r13_Size p0 = (r0, r1)) :
    Calls Tryz.prog 9 #[.agg #[.bool p0.xLeaf, .slice A0x0 n0x0 c0x0, .slice A0x1 n0x1 c0x1, .slice A0x2 n0x2 c0x2, .slice A0x3 n0x3 c0x3]] w (Ret fun v w' => v = .tuple #[.int .i64 r0, .int .i64 r1] ∧ Own w D w' [] ∧ (¬ (r1 = 0) ∨ p0.xLeaf = true ∨ (p0.xKids.ls.length ≤ 8 ∧ p0.xPivots.ls.length ≤ 8 ∧ p0.xBuffers.ls.length ≤ 8))) := by
  subst hn0x0 hn0x1 hn0x2 hn0x3
  have hdl0x3 := abs_len hd0x3
  refine Calls.body (args := [.agg #[.bool p0.xLeaf, .slice A0x0 p0.xPairs.ls.length c0x0, .slice A0x1 p0.xKids.ls.length c0x1, .slice A0x2 p0.xPivots.ls.length c0x2, .slice A0x3 p0.xBuffers.ls.length c0x3]]) Tryz.func9 rfl rfl rfl ?_
  show Wp _ _ _ [(0, .agg #[.bool p0.xLeaf, .slice A0x0 p0.xPairs.ls.length c0x0, .slice A0x1 p0.xKids.ls.length c0x1, .slice A0x2 p0.xPivots.ls.length c0x2, .slice A0x3 p0.xBuffers.ls.length c0x3])] _ _
  refine Wp.seq (Wp.region ?_)
  refine WL.do rfl (Do.newP (cs := [.bool p0.xLeaf, .slice A0x0 p0.xPairs.ls.length c0x0, .slice A0x1 p0.xKids.ls.length c0x1, .slice A0x2 p0.xPivots.ls.length c0x2, .slice A0x3 p0.xBuffers.ls.length c0x3]) (t := 27) H rfl rfl (fun _ => by kernel_rfl) ?_)
  intro g21 w22 H23
  refine As rfl rfl (As rfl rfl (WL.nil (Fin.then (Wp.seq (Wp.seq (Wp.region (WL.val (v := .agg #[.bool p0.xLeaf, .slice A0x0 p0.xPairs.ls.length c0x0, .slice A0x1 p0.xKids.ls.length c0x1, .slice A0x2 p0.xPivots.ls.length c0x2, .slice A0x3 p0.xBuffers.ls.length c0x3]) rfl (Yl.load rfl (Lds.agg (cs := [.bool p0.xLeaf, .slice A0x0 p0.xPairs.ls.length c0x0, .slice A0x1 p0.xKids.ls.length c0x1, .slice A0x2 p0.xPivots.ls.length c0x2, .slice A0x3 p0.xBuffers.ls.length c0x3]) Tryz.isAgg27 Tryz.sizeOf27 ((H23.cls (i := 0) rfl).lit (k := 0) (m := 5) rfl))) ?_)))))))
  obtain ⟨r29, hr30⟩ : ∃ q, r13_Check p0 = q := ⟨_, rfl⟩
  obtain ⟨D24, HP25, ro26, bk27, rr28⟩ := Own.enter0 H23
  refine WL.do rfl (Do.call Tryz.call11 rfl (r13_Check_ok _ _ p0 A0x0 p0.xPairs.ls.length c0x0 A0x1 p0.xKids.ls.length c0x1 A0x2 p0.xPivots.ls.length c0x2 A0x3 p0.xBuffers.ls.length c0x3 d0x3 r29 HP25 rfl (ro26 _ hx0x0) (by first | exact ⟨Nat.le_of_ble_eq_true rfl, Nat.le_of_ble_eq_true rfl⟩ | omega | exact ⟨Nat.le_refl _, by omega⟩) rfl (ro26 _ hx0x1) (by first | exact ⟨Nat.le_of_ble_eq_true rfl, Nat.le_of_ble_eq_true rfl⟩ | omega | exact ⟨Nat.le_refl _, by omega⟩) rfl (ro26 _ hx0x2) (by first | exact ⟨Nat.le_of_ble_eq_true rfl, Nat.le_of_ble_eq_true rfl⟩ | omega | exact ⟨Nat.le_refl _, by omega⟩) hd0x3 rfl (ro26 _ hx0x3) (by first | exact ⟨Nat.le_of_ble_eq_true rfl, Nat.le_of_ble_eq_true rfl⟩ | omega | exact ⟨Nat.le_refl _, by omega⟩) (fun x9 h9 => ⟨ro26 _ (hm0x3 x9 h9).1, (hm0x3 x9 h9).2⟩) hr30) ?_)
  rintro _ w31 ⟨rfl, HQ32, hk34⟩
  have H33 := bk27 _ _ HQ32
  replace hk34 : ¬ (r29 = 0) ∨ p0.xLeaf = true ∨ (p0.xKids.ls.length ≤ 8 ∧ p0.xPivots.ls.length ≤ 8 ∧ p0.xBuffers.ls.length ≤ 8) := hk34
  refine As rfl rfl (WL.nil (Fin.then (Wp.seq (Wp.region (Mv rfl rfl (WL.val (v := .bool (decide (¬ (r29 = 0)))) rfl (Yl.bool (e := !(decide (r29 = 0))) (Yl.kern rfl rfl (fun _ => by kernel_rfl)) decide_not.symm) (WL.nil (Fin.then ?_))))))))
  by_cases h35 : r29 = 0
  refine Wp.cond0 rfl (decide_eq_false (not_not_intro h35)) (Wp.skip (Fin.then (Wp.seq (Wp.region (WL.val (v := .agg #[.bool p0.xLeaf, .slice A0x0 p0.xPairs.ls.length c0x0, .slice A0x1 p0.xKids.ls.length c0x1, .slice A0x2 p0.xPivots.ls.length c0x2, .slice A0x3 p0.xBuffers.ls.length c0x3]) rfl (Yl.load rfl (Lds.agg (cs := [.bool p0.xLeaf, .slice A0x0 p0.xPairs.ls.length c0x0, .slice A0x1 p0.xKids.ls.length c0x1, .slice A0x2 p0.xPivots.ls.length c0x2, .slice A0x3 p0.xBuffers.ls.length c0x3]) Tryz.isAgg27 Tryz.sizeOf27 ((H33.cls (i := 0) rfl).lit (k := 0) (m := 5) rfl))) ?_)))))
  obtain ⟨r41, hr42⟩ : ∃ q, r13_whole p0 = q := ⟨_, rfl⟩
  obtain ⟨D36, HP37, ro38, bk39, rr40⟩ := Own.enter0 H33
  refine WL.do rfl (Do.call Tryz.call22 rfl (r13_whole_ok _ _ p0 A0x0 p0.xPairs.ls.length c0x0 A0x1 p0.xKids.ls.length c0x1 A0x2 p0.xPivots.ls.length c0x2 A0x3 p0.xBuffers.ls.length c0x3 d0x3 r41 HP37 rfl (ro38 _ hx0x0) (by first | exact ⟨Nat.le_of_ble_eq_true rfl, Nat.le_of_ble_eq_true rfl⟩ | omega | exact ⟨Nat.le_refl _, by omega⟩) rfl (ro38 _ hx0x1) (by first | exact ⟨Nat.le_of_ble_eq_true rfl, Nat.le_of_ble_eq_true rfl⟩ | omega | exact ⟨Nat.le_refl _, by omega⟩) rfl (ro38 _ hx0x2) (by first | exact ⟨Nat.le_of_ble_eq_true rfl, Nat.le_of_ble_eq_true rfl⟩ | omega | exact ⟨Nat.le_refl _, by omega⟩) hd0x3 rfl (ro38 _ hx0x3) (by first | exact ⟨Nat.le_of_ble_eq_true rfl, Nat.le_of_ble_eq_true rfl⟩ | omega | exact ⟨Nat.le_refl _, by omega⟩) (fun x9 h9 => ⟨ro38 _ (hm0x3 x9 h9).1, (hm0x3 x9 h9).2⟩) (by first | assumption | decide) (by exact Or.resolve_left hk34 (by omega)) hr42) ?_)
  rintro _ w43 ⟨A46, c47, rfl, HQ44, hk48⟩
  have H45 := bk39 _ _ HQ44
  have hb49 := H45.rowC (i := 0) rfl
  replace hk48 : r41.length ≤ 35184372088832 := hk48
  refine Kn (v := .int .i64 ((r41.length : Nat) : Int)) rfl rfl rfl (fun _ => by kernel_rfl) (As rfl rfl (As rfl rfl (WL.nil (Fin.then (Wp.ret (Fin.res (res2 rfl rfl rfl) ?_))))))
  have H50 := H45.pick [] (by decide) rfl
  have e : r13_Size p0 = (((r41.length : Nat) : Int), 0) := Eq.trans (bnd_of hr30) (Eq.trans (if_pos h35) (bnd_of hr42))
  obtain ⟨rfl, rfl⟩ := pj2 (e.symm.trans hr)
  exact ⟨rfl, H50, (by first | exact .inl (by omega) | exact .inr (Or.resolve_left hk34 (by omega)))⟩
  refine Wp.cond1 rfl (decide_eq_true h35) (Wp.seq (Wp.region (Mv rfl rfl (As rfl rfl (As rfl rfl (WL.nil (Fin.then (Wp.ret (Fin.thenR (Fin.res (res2 rfl rfl rfl) ?_))))))))))
  have H51 := H33.pick [] (by decide) rfl
  have e : r13_Size p0 = (0, r29) := Eq.trans (bnd_of hr30) (if_neg h35)
  obtain ⟨rfl, rfl⟩ := pj2 (e.symm.trans hr)
  exact ⟨rfl, H51, (by first | exact .inl (by omega) | exact .inr (Or.resolve_left hk34 (by omega)))⟩

def r13_Encode (p0 : NodeT) : (List UInt8) × Int :=
  bnd (r13_Size p0) fun yr29 => if yr29.2 = 0 then if yr29.1 > 480 then ([], 2) else bnd (r13_whole p0) fun yr45 => (yr45, 0) else ([], yr29.2)

set_option maxRecDepth 100000 in
theorem r13_Encode_ok (w : World) (D : Nat → Prop) (p0 : NodeT) (A0x0 : Option Addr) (n0x0 c0x0 : Nat) (A0x1 : Option Addr) (n0x1 c0x1 : Nat) (A0x2 : Option Addr) (n0x2 c0x2 : Nat) (A0x3 : Option Addr) (n0x3 c0x3 : Nat) (d0x3 : List Row46D) (r0 : List UInt8) (r1 : Int) (H : Own w D w []) (hn0x0 : n0x0 = p0.xPairs.ls.length) (hx0x0 : Ro w D fun w' => Rds w' 2 A0x0 p0.xPairs.ls.length (List.flatMap PairD.cells p0.xPairs.ls)) (hb0x0 : p0.xPairs.ls.length ≤ c0x0 ∧ p0.xPairs.ls.length ≤ 9223372036854775807) (hn0x1 : n0x1 = p0.xKids.ls.length) (hx0x1 : Ro w D fun w' => Rds w' 1 A0x1 p0.xKids.ls.length (List.flatMap (eI .i64) p0.xKids.ls)) (hb0x1 : p0.xKids.ls.length ≤ c0x1 ∧ p0.xKids.ls.length ≤ 9223372036854775807) (hn0x2 : n0x2 = p0.xPivots.ls.length) (hx0x2 : Ro w D fun w' => Rds w' 1 A0x2 p0.xPivots.ls.length (List.flatMap eS p0.xPivots.ls)) (hb0x2 : p0.xPivots.ls.length ≤ c0x2 ∧ p0.xPivots.ls.length ≤ 9223372036854775807) (hd0x3 : List.map Row46D.abs d0x3 = p0.xBuffers.ls) (hn0x3 : n0x3 = p0.xBuffers.ls.length) (hx0x3 : Ro w D fun w' => Rds w' 1 A0x3 p0.xBuffers.ls.length (List.flatMap (Sv.enc (β := EntryD)) d0x3)) (hb0x3 : p0.xBuffers.ls.length ≤ c0x3 ∧ p0.xBuffers.ls.length ≤ 9223372036854775807) (hm0x3 : ∀ x ∈ d0x3, Ro w D (fun w' => Rds w' 7 x.A x.ls.length (List.flatMap EntryD.cells x.ls)) ∧ x.ls.length ≤ 9223372036854775807) (hh0 : ((p0.xPairs.ls.length ≤ 1048576 ∧ ∀ x ∈ p0.xPairs.ls, x.xKey.length ≤ 1048576 ∧ x.xValue.length ≤ 1048576) ∧ (∀ x ∈ p0.xPivots.ls, x.length ≤ 1048576) ∧ ∀ b ∈ p0.xBuffers.ls, b.ls.length ≤ 1048576 ∧ ∀ x ∈ b.ls, x.xSeq ≤ 18446744073709551615 ∧ x.xOp.xKey.length ≤ 1048576 ∧ x.xOp.xValue.length ≤ 1048576 ∧ x.xOp.xLo.length ≤ 1048576 ∧ x.xOp.xHi.length ≤ 1048576)) (hr : r13_Encode p0 = (r0, r1)) :
    Calls Tryz.prog 7 #[.agg #[.bool p0.xLeaf, .slice A0x0 n0x0 c0x0, .slice A0x1 n0x1 c0x1, .slice A0x2 n0x2 c0x2, .slice A0x3 n0x3 c0x3]] w (Ret fun v w' => ∃ (B0 : Option Addr) (b0 : Nat), v = .tuple #[.slice B0 r0.length b0, .int .i64 r1] ∧ Own w D w' [row B0 r0.length b0 (List.flatMap eB r0) 5 1] ∧ (r0.length ≤ 35184372088832)) := by
  subst hn0x0 hn0x1 hn0x2 hn0x3
  have hdl0x3 := abs_len hd0x3
  refine Calls.body (args := [.agg #[.bool p0.xLeaf, .slice A0x0 p0.xPairs.ls.length c0x0, .slice A0x1 p0.xKids.ls.length c0x1, .slice A0x2 p0.xPivots.ls.length c0x2, .slice A0x3 p0.xBuffers.ls.length c0x3]]) Tryz.func7 rfl rfl rfl ?_
  show Wp _ _ _ [(0, .agg #[.bool p0.xLeaf, .slice A0x0 p0.xPairs.ls.length c0x0, .slice A0x1 p0.xKids.ls.length c0x1, .slice A0x2 p0.xPivots.ls.length c0x2, .slice A0x3 p0.xBuffers.ls.length c0x3])] _ _
  refine Wp.seq (Wp.region ?_)
  refine WL.do rfl (Do.newP (cs := [.bool p0.xLeaf, .slice A0x0 p0.xPairs.ls.length c0x0, .slice A0x1 p0.xKids.ls.length c0x1, .slice A0x2 p0.xPivots.ls.length c0x2, .slice A0x3 p0.xBuffers.ls.length c0x3]) (t := 27) H rfl rfl (fun _ => by kernel_rfl) ?_)
  intro g21 w22 H23
  refine As rfl rfl (As rfl rfl (WL.nil (Fin.then (Wp.seq (Wp.region (WL.val (v := .agg #[.bool p0.xLeaf, .slice A0x0 p0.xPairs.ls.length c0x0, .slice A0x1 p0.xKids.ls.length c0x1, .slice A0x2 p0.xPivots.ls.length c0x2, .slice A0x3 p0.xBuffers.ls.length c0x3]) rfl (Yl.load rfl (Lds.agg (cs := [.bool p0.xLeaf, .slice A0x0 p0.xPairs.ls.length c0x0, .slice A0x1 p0.xKids.ls.length c0x1, .slice A0x2 p0.xPivots.ls.length c0x2, .slice A0x3 p0.xBuffers.ls.length c0x3]) Tryz.isAgg27 Tryz.sizeOf27 ((H23.cls (i := 0) rfl).lit (k := 0) (m := 5) rfl))) ?_))))))
  obtain ⟨⟨r29, r30⟩, hr31⟩ : ∃ q : Int × Int, r13_Size p0 = q := ⟨_, rfl⟩
  obtain ⟨D24, HP25, ro26, bk27, rr28⟩ := Own.enter0 H23
  refine WL.do rfl (Do.call Tryz.call9 rfl (r13_Size_ok _ _ p0 A0x0 p0.xPairs.ls.length c0x0 A0x1 p0.xKids.ls.length c0x1 A0x2 p0.xPivots.ls.length c0x2 A0x3 p0.xBuffers.ls.length c0x3 d0x3 r29 r30 HP25 rfl (ro26 _ hx0x0) (by first | exact ⟨Nat.le_of_ble_eq_true rfl, Nat.le_of_ble_eq_true rfl⟩ | omega | exact ⟨Nat.le_refl _, by omega⟩) rfl (ro26 _ hx0x1) (by first | exact ⟨Nat.le_of_ble_eq_true rfl, Nat.le_of_ble_eq_true rfl⟩ | omega | exact ⟨Nat.le_refl _, by omega⟩) rfl (ro26 _ hx0x2) (by first | exact ⟨Nat.le_of_ble_eq_true rfl, Nat.le_of_ble_eq_true rfl⟩ | omega | exact ⟨Nat.le_refl _, by omega⟩) hd0x3 rfl (ro26 _ hx0x3) (by first | exact ⟨Nat.le_of_ble_eq_true rfl, Nat.le_of_ble_eq_true rfl⟩ | omega | exact ⟨Nat.le_refl _, by omega⟩) (fun x9 h9 => ⟨ro26 _ (hm0x3 x9 h9).1, (hm0x3 x9 h9).2⟩) (by first | assumption | decide) hr31) ?_)
  rintro _ w32 ⟨rfl, HQ33, hk35⟩
  have H34 := bk27 _ _ HQ33
  replace hk35 : ¬ (r30 = 0) ∨ p0.xLeaf = true ∨ (p0.xKids.ls.length ≤ 8 ∧ p0.xPivots.ls.length ≤ 8 ∧ p0.xBuffers.ls.length ≤ 8) := hk35
  refine Mv rfl rfl (Kn (v := .int .i64 r29) rfl rfl rfl (fun _ => by kernel_rfl) (Kn (v := .int .i64 r30) rfl rfl rfl (fun _ => by kernel_rfl) (As rfl rfl (As rfl rfl (WL.nil (Fin.then (Wp.seq (Wp.seq (Wp.region (Mv rfl rfl (WL.val (v := .bool (decide (¬ (r30 = 0)))) rfl (Yl.bool (e := !(decide (r30 = 0))) (Yl.kern rfl rfl (fun _ => by kernel_rfl)) decide_not.symm) (WL.nil (Fin.then ?_)))))))))))))
  by_cases h36 : r30 = 0
  refine Wp.cond0 rfl (decide_eq_false (not_not_intro h36)) (Wp.skip (Fin.then (Wp.seq (Wp.seq (Wp.region (Mv rfl rfl (Kn (v := .bool (decide (r29 > 480))) rfl rfl rfl (fun _ => by kernel_rfl) (WL.nil (Fin.then ?_)))))))))
  by_cases h37 : r29 > 480
  refine Wp.cond1 rfl (decide_eq_true h37) (Wp.seq (Wp.region (As rfl rfl (As rfl rfl (WL.nil (Fin.then (Wp.ret (Fin.thenR (Fin.res (res2 rfl rfl rfl) ?_)))))))))
  have H38 : Own w D w32 [row none 0 0 (List.flatMap eB ([])) 5 1, blk g21 [.bool p0.xLeaf, .slice A0x0 p0.xPairs.ls.length c0x0, .slice A0x1 p0.xKids.ls.length c0x1, .slice A0x2 p0.xPivots.ls.length c0x2, .slice A0x3 p0.xBuffers.ls.length c0x3] 27] := H34.free (row_nil 5 1)
  have H39 : Own w D w32 [row none 0 0 (List.flatMap eB ([])) 5 1] := H38.pick [0] (by decide) rfl
  have e : r13_Encode p0 = ([], 2) := Eq.trans (bnd_of hr31) (Eq.trans (if_pos h36) (if_pos h37))
  obtain ⟨rfl, rfl⟩ := pj2 (e.symm.trans hr)
  exact ⟨none, 0, rfl, H39, (by first | omega | exact Nat.zero_le _)⟩
  refine Wp.cond0 rfl (decide_eq_false h37) (Wp.skip (Fin.then (Wp.seq (Wp.region (WL.val (v := .agg #[.bool p0.xLeaf, .slice A0x0 p0.xPairs.ls.length c0x0, .slice A0x1 p0.xKids.ls.length c0x1, .slice A0x2 p0.xPivots.ls.length c0x2, .slice A0x3 p0.xBuffers.ls.length c0x3]) rfl (Yl.load rfl (Lds.agg (cs := [.bool p0.xLeaf, .slice A0x0 p0.xPairs.ls.length c0x0, .slice A0x1 p0.xKids.ls.length c0x1, .slice A0x2 p0.xPivots.ls.length c0x2, .slice A0x3 p0.xBuffers.ls.length c0x3]) Tryz.isAgg27 Tryz.sizeOf27 ((H34.cls (i := 0) rfl).lit (k := 0) (m := 5) rfl))) ?_)))))
  obtain ⟨r45, hr46⟩ : ∃ q, r13_whole p0 = q := ⟨_, rfl⟩
  obtain ⟨D40, HP41, ro42, bk43, rr44⟩ := Own.enter0 H34
  refine WL.do rfl (Do.call Tryz.call22 rfl (r13_whole_ok _ _ p0 A0x0 p0.xPairs.ls.length c0x0 A0x1 p0.xKids.ls.length c0x1 A0x2 p0.xPivots.ls.length c0x2 A0x3 p0.xBuffers.ls.length c0x3 d0x3 r45 HP41 rfl (ro42 _ hx0x0) (by first | exact ⟨Nat.le_of_ble_eq_true rfl, Nat.le_of_ble_eq_true rfl⟩ | omega | exact ⟨Nat.le_refl _, by omega⟩) rfl (ro42 _ hx0x1) (by first | exact ⟨Nat.le_of_ble_eq_true rfl, Nat.le_of_ble_eq_true rfl⟩ | omega | exact ⟨Nat.le_refl _, by omega⟩) rfl (ro42 _ hx0x2) (by first | exact ⟨Nat.le_of_ble_eq_true rfl, Nat.le_of_ble_eq_true rfl⟩ | omega | exact ⟨Nat.le_refl _, by omega⟩) hd0x3 rfl (ro42 _ hx0x3) (by first | exact ⟨Nat.le_of_ble_eq_true rfl, Nat.le_of_ble_eq_true rfl⟩ | omega | exact ⟨Nat.le_refl _, by omega⟩) (fun x9 h9 => ⟨ro42 _ (hm0x3 x9 h9).1, (hm0x3 x9 h9).2⟩) (by first | assumption | decide) (by exact Or.resolve_left hk35 (by omega)) hr46) ?_)
  rintro _ w47 ⟨A50, c51, rfl, HQ48, hk52⟩
  have H49 := bk43 _ _ HQ48
  have hb53 := H49.rowC (i := 0) rfl
  replace hk52 : r45.length ≤ 35184372088832 := hk52
  refine As rfl rfl (As rfl rfl (WL.nil (Fin.then (Wp.ret (Fin.res (res2 rfl rfl rfl) ?_)))))
  have H54 := H49.pick [0] (by decide) rfl
  have e : r13_Encode p0 = (r45, 0) := Eq.trans (bnd_of hr31) (Eq.trans (if_pos h36) (Eq.trans (if_neg h37) (bnd_of hr46)))
  obtain ⟨rfl, rfl⟩ := pj2 (e.symm.trans hr)
  exact ⟨A50, c51, rfl, H54, (by first | omega | exact Nat.zero_le _)⟩
  refine Wp.cond1 rfl (decide_eq_true h36) (Wp.seq (Wp.region (Mv rfl rfl (As rfl rfl (As rfl rfl (WL.nil (Fin.then (Wp.ret (Fin.thenR (Fin.res (res2 rfl rfl rfl) ?_))))))))))
  have H55 : Own w D w32 [row none 0 0 (List.flatMap eB ([])) 5 1, blk g21 [.bool p0.xLeaf, .slice A0x0 p0.xPairs.ls.length c0x0, .slice A0x1 p0.xKids.ls.length c0x1, .slice A0x2 p0.xPivots.ls.length c0x2, .slice A0x3 p0.xBuffers.ls.length c0x3] 27] := H34.free (row_nil 5 1)
  have H56 : Own w D w32 [row none 0 0 (List.flatMap eB ([])) 5 1] := H55.pick [0] (by decide) rfl
  have e : r13_Encode p0 = ([], r30) := Eq.trans (bnd_of hr31) (if_neg h36)
  obtain ⟨rfl, rfl⟩ := pj2 (e.symm.trans hr)
  exact ⟨none, 0, rfl, H56, (by first | omega | exact Nat.zero_le _)⟩
end Go.Proofs.YtfkkipmdnjfocaaGreat
