/-
  node: bytes of nodes.
-/
import Derived.Test.YtfkkipmdnjfocaaGreatDe
namespace Go.Proofs.YtfkkipmdnjfocaaGreat
open Go.RowKit
set_option linter.unusedVariables false
set_option linter.unusedSectionVars false
set_option linter.unusedSimpArgs false

theorem El29 : Elem Tryz.prog 29 5 1 1 := elem_of (z := .int .u8 0) Tryz.underlying29 (by kernel_rfl) rfl (by decide)

def octet_Num_L0 : Nat → Nat → List UInt8 → Nat × (List UInt8)
  | 0, k24, l27 => default
  | q28 + 1, k24, l27 => if ((k24 : Nat) : Int) ≥ 128 then octet_Num_L0 q28 (k24 / 128) (l27 ++ [((UInt8.ofNat k24) ||| (128 : UInt8))]) else (k24, l27)

def octet_Num (p0 : Nat) : (List UInt8) :=
  bnd (octet_Num_L0 (p0 + 1) p0 ([])) fun sLrL => (sLrL.2 ++ [(UInt8.ofNat sLrL.1)])

set_option maxRecDepth 100000 in
theorem octet_Num_ok (w : World) (D : Nat → Prop) (p0 : Nat) (r0 : List UInt8) (H : Own w D w []) (hh0 : p0 ≤ 18446744073709551615) (hr : octet_Num p0 = r0) :
    Calls Tryz.prog 66 #[.int .u64 ((p0 : Nat) : Int)] w (Ret fun v w' => ∃ (B0 : Option Addr) (b0 : Nat), v = .slice B0 r0.length b0 ∧ Own w D w' [row B0 r0.length b0 (List.flatMap eB r0) 5 1] ∧ (1 ≤ r0.length ∧ r0.length ≤ 10) ∧ (p0 ≥ 128 ∨ r0.length = 1)) := by
  refine Calls.body (args := [.int .u64 ((p0 : Nat) : Int)]) Tryz.func66 rfl rfl rfl ?_
  show Wp _ _ _ [(0, .int .u64 ((p0 : Nat) : Int))] _ _
  refine Wp.seq (Wp.region (As rfl rfl (WL.nil (Fin.then (Wp.seq (Wp.region ?_))))))
  refine WL.do rfl (Do.makeC (m := 10) (size := 1) (bytes := 1) (z := .int .u8 0) Tryz.underlying29 (by kernel_rfl) H rfl rfl (by omega) (by unfold maxLen; omega) ?_)
  intro A21 w22 H23
  refine As rfl rfl (WL.nil (Fin.then (Wp.seq (Wp.block ?_))))
  have H30 : Own w D w22 [row A21 0 10 (List.flatMap eB ([])) 5 1] := H23.pick [0] (by decide) rfl
  refine Wp.loop (ι := Nat × (Option Addr) × Nat × (List UInt8) × Nat) (fun i => [(0, .int .u64 ((i.1 : Nat) : Int)), (3, .slice i.2.1 i.2.2.2.1.length i.2.2.1), (2, .slice none 0 0)]) (fun (i : Nat × (Option Addr) × Nat × (List UInt8) × Nat) w' => Own w D w' [row i.2.1 i.2.2.2.1.length i.2.2.1 (List.flatMap eB i.2.2.2.1) 5 1] ∧ (NumInv i.2.2.2.1.length i.1 ∧ i.2.2.2.1.length ≤ 9 ∧ (p0 ≥ 128 ∨ (i.2.2.2.1.length = 0 ∧ i.1 = p0)) ∧ i.1 < i.2.2.2.2 ∧ octet_Num_L0 (p0 + 1) p0 ([]) = octet_Num_L0 i.2.2.2.2 i.1 i.2.2.2.1)) (fun i => i.2.2.2.2) (p0, A21, 10, [], p0 + 1) ⟨rfl, rfl, rfl, trivial⟩ ⟨H30, (show NumInv (0) p0 ∧ 0 ≤ 9 ∧ (p0 ≥ 128 ∨ (0 = 0 ∧ p0 = p0)) ∧ p0 < (p0 + 1) ∧ octet_Num_L0 (p0 + 1) p0 ([]) = octet_Num_L0 (p0 + 1) p0 ([]) from ⟨by first | exact NumInv.zero hh0 | exact NumInv.step (by assumption) (by simp only [List.length_append, List.length_cons, List.length_nil]), by first | exact Nat.zero_le _ | (have q9 := NumInv.le (by assumption) (by omega); simp only [List.length_append, List.length_cons, List.length_nil]; omega), by omega, by omega, rfl⟩)⟩ ?_
  rintro ⟨k24, A25, c26, l27, f29⟩ w31 ⟨H32, hf33⟩
  show Wp _ _ _ [(0, .int .u64 ((k24 : Nat) : Int)), (3, .slice A25 l27.length c26), (2, .slice none 0 0)] _ _
  replace hf33 : NumInv l27.length k24 ∧ l27.length ≤ 9 ∧ (p0 ≥ 128 ∨ (l27.length = 0 ∧ k24 = p0)) ∧ k24 < f29 ∧ octet_Num_L0 (p0 + 1) p0 ([]) = octet_Num_L0 f29 k24 l27 := hf33
  obtain ⟨hi35, hi36, hi37, hi38, hq34⟩ := hf33
  obtain ⟨f39, hf40⟩ : ∃ q, f29 = q + 1 := ⟨f29 - 1, by omega⟩
  subst hf40
  refine Wp.seq (Wp.seq (Wp.region (Mv rfl rfl (Kn (v := .bool (decide (((k24 : Nat) : Int) ≥ 128))) rfl rfl rfl (fun _ => by kernel_rfl) (WL.nil (Fin.then ?_))))))
  by_cases h41 : ((k24 : Nat) : Int) ≥ 128
  refine Wp.cond1 rfl (decide_eq_true h41) (Wp.skip (Fin.then (Wp.block (Wp.seq (Wp.region (Mv rfl rfl (Mv rfl rfl (WL.val (v := .int .u8 (((UInt8.ofNat k24).toNat : Nat) : Int)) rfl (Yl.int (e := IntKind.u8.wrap ((k24 : Nat) : Int)) (Yl.kern rfl rfl (fun _ => by kernel_rfl)) (u8_wrap _)) (WL.val (v := .int .u8 ((((UInt8.ofNat k24) ||| (128 : UInt8)).toNat : Nat) : Int)) rfl (Yl.int (e := IntKind.u8.wrap (((BitVec.ofInt 8 (((UInt8.ofNat k24).toNat : Nat) : Int) ||| BitVec.ofInt 8 128).toNat : Nat) : Int)) (Yl.kern rfl rfl (fun _ => by kernel_rfl)) (u8_or (UInt8.ofNat k24) (128 : UInt8))) ?_)))))))))
  refine WL.do rfl (Do.newRow (cs := [.int .u8 ((((UInt8.ofNat k24) ||| (128 : UInt8)).toNat : Nat) : Int)]) (t := 5) (sz := 1) (m := 1) H32 rfl rfl (fun _ => by kernel_rfl) rfl (by decide) ?_)
  intro A42 w43 H44
  replace H44 : Own w D w43 [row A42 1 1 (List.flatMap eB ([((UInt8.ofNat k24) ||| (128 : UInt8))])) 5 1, row A25 l27.length c26 (List.flatMap eB l27) 5 1] := H44
  have H45 : Own w D w43 [row A25 l27.length c26 (List.flatMap eB l27) 5 1, row A42 1 1 (List.flatMap eB ([((UInt8.ofNat k24) ||| (128 : UInt8))])) 5 1] := H44.pick [1, 0] (by decide) rfl
  refine WL.do rfl (Do.appendW (k := l27.length) (m := 1) (El29) H45 rfl rfl (src_of Tryz.underlying29 (H45.rds (i := 1) rfl) (flat_one eB_one ([((UInt8.ofNat k24) ||| (128 : UInt8))]))) rfl (by omega) (s := List.length (l27 ++ [((UInt8.ofNat k24) ||| (128 : UInt8))])) (by first | omega | (simp only [List.length_append, List.length_cons, List.length_nil] <;> omega)) (List.flatMap_append).symm ?_)
  intro A46 c47 w48 H49
  have hl50 : List.length (l27 ++ [((UInt8.ofNat k24) ||| (128 : UInt8))]) = l27.length + 1 := by simp only [List.length_append, List.length_cons, List.length_nil]
  refine As rfl rfl (WL.nil (Fin.then (Wp.region (Mv rfl rfl (WL.val (v := .int .u64 ((k24 / 128 : Nat) : Int)) rfl (Yl.int (e := Int.fdiv ((k24 : Nat) : Int) 128) (Yl.kern rfl rfl (fun _ => by kernel_rfl)) (shr_nat _ 7 _ (by decide))) (As rfl rfl (WL.nil (Fin.blockN ?_))))))))
  have H51 : Own w D w48 [row A46 (List.length (l27 ++ [((UInt8.ofNat k24) ||| (128 : UInt8))])) c47 (List.flatMap eB (l27 ++ [((UInt8.ofNat k24) ||| (128 : UInt8))])) 5 1] := H49.pick [0] (by decide) rfl
  exact Fin.round (k24 / 128, A46, c47, (l27 ++ [((UInt8.ofNat k24) ||| (128 : UInt8))]), f39) ⟨rfl, rfl, rfl, trivial⟩ ⟨H51, (show NumInv (List.length (l27 ++ [((UInt8.ofNat k24) ||| (128 : UInt8))])) (k24 / 128) ∧ List.length (l27 ++ [((UInt8.ofNat k24) ||| (128 : UInt8))]) ≤ 9 ∧ (p0 ≥ 128 ∨ (List.length (l27 ++ [((UInt8.ofNat k24) ||| (128 : UInt8))]) = 0 ∧ (k24 / 128) = p0)) ∧ (k24 / 128) < f39 ∧ octet_Num_L0 (p0 + 1) p0 ([]) = octet_Num_L0 f39 (k24 / 128) (l27 ++ [((UInt8.ofNat k24) ||| (128 : UInt8))]) from ⟨by first | exact NumInv.zero hh0 | exact NumInv.step (by assumption) (by simp only [List.length_append, List.length_cons, List.length_nil]), by first | exact Nat.zero_le _ | (have q9 := NumInv.le (by assumption) (by omega); simp only [List.length_append, List.length_cons, List.length_nil]; omega), by omega, by omega, Eq.trans (hq34) (if_pos h41)⟩)⟩ (by show f39 < f39 + 1; omega)
  refine Wp.cond0 rfl (decide_eq_false h41) (Wp.exit (Fin.thenX ?_))
  have hL52 : octet_Num_L0 (p0 + 1) p0 ([]) = (k24, l27) := Eq.trans (hq34) (if_neg h41)
  refine Fin.thenX (Fin.blockX (Fin.then (Wp.seq (Wp.region (Mv rfl rfl (Mv rfl rfl (WL.val (v := .int .u8 (((UInt8.ofNat k24).toNat : Nat) : Int)) rfl (Yl.int (e := IntKind.u8.wrap ((k24 : Nat) : Int)) (Yl.kern rfl rfl (fun _ => by kernel_rfl)) (u8_wrap _)) ?_)))))))
  refine WL.do rfl (Do.newRow (cs := [.int .u8 (((UInt8.ofNat k24).toNat : Nat) : Int)]) (t := 5) (sz := 1) (m := 1) H32 rfl rfl (fun _ => by kernel_rfl) rfl (by decide) ?_)
  intro A53 w54 H55
  replace H55 : Own w D w54 [row A53 1 1 (List.flatMap eB ([(UInt8.ofNat k24)])) 5 1, row A25 l27.length c26 (List.flatMap eB l27) 5 1] := H55
  have H56 : Own w D w54 [row A25 l27.length c26 (List.flatMap eB l27) 5 1, row A53 1 1 (List.flatMap eB ([(UInt8.ofNat k24)])) 5 1] := H55.pick [1, 0] (by decide) rfl
  refine WL.do rfl (Do.appendW (k := l27.length) (m := 1) (El29) H56 rfl rfl (src_of Tryz.underlying29 (H56.rds (i := 1) rfl) (flat_one eB_one ([(UInt8.ofNat k24)]))) rfl (by omega) (s := List.length (l27 ++ [(UInt8.ofNat k24)])) (by first | omega | (simp only [List.length_append, List.length_cons, List.length_nil] <;> omega)) (List.flatMap_append).symm ?_)
  intro A57 c58 w59 H60
  have hl61 : List.length (l27 ++ [(UInt8.ofNat k24)]) = l27.length + 1 := by simp only [List.length_append, List.length_cons, List.length_nil]
  refine As rfl rfl (WL.nil (Fin.then (Wp.ret (Fin.res (res1 rfl rfl) ?_))))
  have H62 : Own w D w59 [row A57 (List.length (l27 ++ [(UInt8.ofNat k24)])) c58 (List.flatMap eB (l27 ++ [(UInt8.ofNat k24)])) 5 1] := H60.pick [0] (by decide) rfl
  have e : octet_Num p0 = (l27 ++ [(UInt8.ofNat k24)]) := bnd_of hL52
  obtain rfl := e.symm.trans hr
  exact ⟨A57, c58, rfl, H62, (by first | omega | (simp only [List.length_cons, List.length_nil, List.length_append]; omega)), (by first | omega | (simp only [List.length_cons, List.length_nil, List.length_append]; omega))⟩

def octet_Text (p0 : List UInt8) : (List UInt8) :=
  bnd (octet_Num p0.length) fun yr26 => (yr26 ++ p0)

set_option maxRecDepth 100000 in
theorem octet_Text_ok (w : World) (D : Nat → Prop) (p0 : List UInt8) (r0 : List UInt8) (H : Own w D w []) (hh0 : p0.length ≤ 140737488351232) (hr : octet_Text p0 = r0) :
    Calls Tryz.prog 83 #[.string ⟨List.toArray p0⟩] w (Ret fun v w' => ∃ (B0 : Option Addr) (b0 : Nat), v = .slice B0 r0.length b0 ∧ Own w D w' [row B0 r0.length b0 (List.flatMap eB r0) 5 1] ∧ (r0.length ≤ p0.length + 10) ∧ (p0.length ≥ 128 ∨ r0.length = p0.length + 1)) := by
  refine Calls.body (args := [.string ⟨List.toArray p0⟩]) Tryz.func83 rfl rfl rfl ?_
  show Wp _ _ _ [(0, .string ⟨List.toArray p0⟩)] _ _
  refine Wp.seq (Wp.region (As rfl rfl (WL.nil (Fin.then (Wp.seq (Wp.region (Mv rfl rfl (Kn (v := .int .i64 ((p0.length : Nat) : Int)) rfl rfl rfl (fun _ => by kernel_rfl) (WL.val (v := .int .u64 ((p0.length : Nat) : Int)) rfl (Yl.int (e := IntKind.u64.wrap ((p0.length : Nat) : Int)) (Yl.kern rfl rfl (fun _ => by kernel_rfl)) (IntWalk.u64_in _ (by omega))) ?_)))))))))
  obtain ⟨r26, hr27⟩ : ∃ q, octet_Num p0.length = q := ⟨_, rfl⟩
  obtain ⟨D21, HP22, ro23, bk24, rr25⟩ := Own.enter0 H
  refine WL.do rfl (Do.call Tryz.call66 rfl (octet_Num_ok _ _ p0.length r26 HP22 (by omega) hr27) ?_)
  rintro _ w28 ⟨A31, c32, rfl, HQ29, hk33, hk34⟩
  have H30 := bk24 _ _ HQ29
  have hb35 := H30.rowC (i := 0) rfl
  replace hk33 : 1 ≤ r26.length ∧ r26.length ≤ 10 := hk33
  replace hk34 : p0.length ≥ 128 ∨ r26.length = 1 := hk34
  refine Mv rfl rfl ?_
  refine WL.do rfl (Do.appendW (k := r26.length) (m := p0.length) (El29) H30 rfl rfl (src_str Tryz.underlying9 rfl) rfl (by omega) (s := List.length (r26 ++ p0)) (by first | omega | (simp only [List.length_append, List.length_cons, List.length_nil] <;> omega)) (List.flatMap_append).symm ?_)
  intro A36 c37 w38 H39
  have hl40 : List.length (r26 ++ p0) = r26.length + p0.length := by simp only [List.length_append, List.length_cons, List.length_nil]
  refine As rfl rfl (WL.nil (Fin.then (Wp.ret (Fin.res (res1 rfl rfl) ?_))))
  have H41 := H39.pick [0] (by decide) rfl
  have e : octet_Text p0 = (r26 ++ p0) := bnd_of hr27
  obtain rfl := e.symm.trans hr
  exact ⟨A36, c37, rfl, H41, (by first | omega | (simp only [List.length_cons, List.length_nil, List.length_append]; omega)), (by first | omega | (simp only [List.length_cons, List.length_nil, List.length_append]; omega))⟩

def node_putNum (l0 : List UInt8) (p1 : Int) : (List UInt8) :=
  bnd (octet_Num (Int.toNat (IntKind.u64.wrap p1))) fun yr27 => (l0 ++ yr27)

set_option maxRecDepth 100000 in
theorem node_putNum_ok (w : World) (D : Nat → Prop) (A0 : Option Addr) (n0 c0 : Nat) (l0 : List UInt8) (p1 : Int) (r0 : List UInt8) (H : Own w D w [row A0 n0 c0 (List.flatMap eB l0) 5 1]) (hn0 : n0 = l0.length) (hl0 : l0.length * 1 ≤ 211106232532992) (hh0 : l0.length ≤ 140737488351232) (hr : node_putNum l0 p1 = r0) :
    Calls Tryz.prog 64 #[.slice A0 n0 c0, .int .i64 p1] w (Ret fun v w' => ∃ (B0 : Option Addr) (b0 : Nat), v = .slice B0 r0.length b0 ∧ Own w D w' [row B0 r0.length b0 (List.flatMap eB r0) 5 1] ∧ (r0.length ≤ l0.length + 10)) := by
  subst hn0
  have hc0 := H.rowC (i := 0) rfl
  refine Calls.body (args := [.slice A0 l0.length c0, .int .i64 p1]) Tryz.func64 rfl rfl rfl ?_
  show Wp _ _ _ [(0, .slice A0 l0.length c0), (1, .int .i64 p1)] _ _
  refine Wp.seq (Wp.region (As rfl rfl (WL.nil (Fin.then (Wp.seq (Wp.region (Mv rfl rfl (Mv rfl rfl ?_))))))))
  have hz21 : Int.toNat (IntKind.u64.wrap p1) ≤ 18446744073709551615 := wrapN_u64 _
  refine WL.val (v := .int .u64 ((Int.toNat (IntKind.u64.wrap p1) : Nat) : Int)) rfl (Yl.int (e := IntKind.u64.wrap p1) (Yl.kern rfl rfl (fun _ => by kernel_rfl)) (wrap_nat_u64 _)) ?_
  obtain ⟨r27, hr28⟩ : ∃ q, octet_Num (Int.toNat (IntKind.u64.wrap p1)) = q := ⟨_, rfl⟩
  obtain ⟨D22, HP23, ro24, bk25, rr26⟩ := Own.enter0 H
  refine WL.do rfl (Do.call Tryz.call66 rfl (octet_Num_ok _ _ (Int.toNat (IntKind.u64.wrap p1)) r27 HP23 (by omega) hr28) ?_)
  rintro _ w29 ⟨A32, c33, rfl, HQ30, hk34, hk35⟩
  have H31 := bk25 _ _ HQ30
  have hb36 := H31.rowC (i := 0) rfl
  replace hk34 : 1 ≤ r27.length ∧ r27.length ≤ 10 := hk34
  replace hk35 : (Int.toNat (IntKind.u64.wrap p1)) ≥ 128 ∨ r27.length = 1 := hk35
  have H37 := H31.pick [1, 0] (by decide) rfl
  refine WL.do rfl (Do.appendW (k := l0.length) (m := r27.length) (El29) H37 rfl rfl (src_of Tryz.underlying29 (H37.rds (i := 1) rfl) (flat_one eB_one r27)) rfl (by omega) (s := List.length (l0 ++ r27)) (by first | omega | (simp only [List.length_append, List.length_cons, List.length_nil] <;> omega)) (List.flatMap_append).symm ?_)
  intro A38 c39 w40 H41
  have hl42 : List.length (l0 ++ r27) = l0.length + r27.length := by simp only [List.length_append, List.length_cons, List.length_nil]
  refine As rfl rfl (WL.nil (Fin.then (Wp.ret (Fin.res (res1 rfl rfl) ?_))))
  have H43 := H41.pick [0] (by decide) rfl
  have e : node_putNum l0 p1 = (l0 ++ r27) := bnd_of hr28
  obtain rfl := e.symm.trans hr
  exact ⟨A38, c39, rfl, H43, (by first | omega | (simp only [List.length_cons, List.length_nil, List.length_append]; omega))⟩

def node_putText (l0 : List UInt8) (p1 : List UInt8) : (List UInt8) :=
  bnd (octet_Text p1) fun yr26 => (l0 ++ yr26)

set_option maxRecDepth 100000 in
theorem node_putText_ok (w : World) (D : Nat → Prop) (A0 : Option Addr) (n0 c0 : Nat) (l0 : List UInt8) (p1 : List UInt8) (r0 : List UInt8) (H : Own w D w [row A0 n0 c0 (List.flatMap eB l0) 5 1]) (hn0 : n0 = l0.length) (hl0 : l0.length * 1 ≤ 211106232532992) (hh0 : l0.length ≤ 140737488351232 ∧ p1.length ≤ 1048576) (hr : node_putText l0 p1 = r0) :
    Calls Tryz.prog 65 #[.slice A0 n0 c0, .string ⟨List.toArray p1⟩] w (Ret fun v w' => ∃ (B0 : Option Addr) (b0 : Nat), v = .slice B0 r0.length b0 ∧ Own w D w' [row B0 r0.length b0 (List.flatMap eB r0) 5 1] ∧ (r0.length ≤ l0.length + p1.length + 10)) := by
  subst hn0
  have hc0 := H.rowC (i := 0) rfl
  refine Calls.body (args := [.slice A0 l0.length c0, .string ⟨List.toArray p1⟩]) Tryz.func65 rfl rfl rfl ?_
  show Wp _ _ _ [(0, .slice A0 l0.length c0), (1, .string ⟨List.toArray p1⟩)] _ _
  refine Wp.seq (Wp.region (As rfl rfl (WL.nil (Fin.then (Wp.seq (Wp.region (Mv rfl rfl (Mv rfl rfl ?_))))))))
  obtain ⟨r26, hr27⟩ : ∃ q, octet_Text p1 = q := ⟨_, rfl⟩
  obtain ⟨D21, HP22, ro23, bk24, rr25⟩ := Own.enter0 H
  refine WL.do rfl (Do.call Tryz.call83 rfl (octet_Text_ok _ _ p1 r26 HP22 (by omega) hr27) ?_)
  rintro _ w28 ⟨A31, c32, rfl, HQ29, hk33, hk34⟩
  have H30 := bk24 _ _ HQ29
  have hb35 := H30.rowC (i := 0) rfl
  replace hk33 : r26.length ≤ p1.length + 10 := hk33
  replace hk34 : p1.length ≥ 128 ∨ r26.length = p1.length + 1 := hk34
  have H36 := H30.pick [1, 0] (by decide) rfl
  refine WL.do rfl (Do.appendW (k := l0.length) (m := r26.length) (El29) H36 rfl rfl (src_of Tryz.underlying29 (H36.rds (i := 1) rfl) (flat_one eB_one r26)) rfl (by omega) (s := List.length (l0 ++ r26)) (by first | omega | (simp only [List.length_append, List.length_cons, List.length_nil] <;> omega)) (List.flatMap_append).symm ?_)
  intro A37 c38 w39 H40
  have hl41 : List.length (l0 ++ r26) = l0.length + r26.length := by simp only [List.length_append, List.length_cons, List.length_nil]
  refine As rfl rfl (WL.nil (Fin.then (Wp.ret (Fin.res (res1 rfl rfl) ?_))))
  have H42 := H40.pick [0] (by decide) rfl
  have e : node_putText l0 p1 = (l0 ++ r26) := bnd_of hr27
  obtain rfl := e.symm.trans hr
  exact ⟨A37, c38, rfl, H42, (by first | omega | (simp only [List.length_cons, List.length_nil, List.length_append]; omega))⟩

def node_putOp (l0 : List UInt8) (p1 : OpD) : (List UInt8) :=
  if p1.xKind = 2 then bnd (node_putText (l0 ++ [(u8I p1.xKind)]) p1.xKey) fun yr43 => bnd (node_putText yr43 p1.xValue) fun yr59 => yr59 else if p1.xKind = 3 then bnd (node_putText (l0 ++ [(u8I p1.xKind)]) p1.xKey) fun yr76 => yr76 else bnd (node_putText (l0 ++ [(u8I p1.xKind)]) p1.xLo) fun yr95 => bnd (node_putText yr95 p1.xHi) fun yr111 => yr111

set_option maxRecDepth 100000 in
theorem node_putOp_ok (w : World) (D : Nat → Prop) (A0 : Option Addr) (n0 c0 : Nat) (l0 : List UInt8) (p1 : OpD) (r0 : List UInt8) (H : Own w D w [row A0 n0 c0 (List.flatMap eB l0) 5 1]) (hn0 : n0 = l0.length) (hl0 : l0.length * 1 ≤ 211106232532992) (hh0 : l0.length ≤ 120737488351232 ∧ p1.xKey.length ≤ 1048576 ∧ p1.xValue.length ≤ 1048576 ∧ p1.xLo.length ≤ 1048576 ∧ p1.xHi.length ≤ 1048576) (hr : node_putOp l0 p1 = r0) :
    Calls Tryz.prog 67 #[.slice A0 n0 c0, .agg (OpD.cells p1).toArray] w (Ret fun v w' => ∃ (B0 : Option Addr) (b0 : Nat), v = .slice B0 r0.length b0 ∧ Own w D w' [row B0 r0.length b0 (List.flatMap eB r0) 5 1] ∧ (r0.length ≤ l0.length + 2097173)) := by
  subst hn0
  have hc0 := H.rowC (i := 0) rfl
  refine Calls.body (args := [.slice A0 l0.length c0, .agg (OpD.cells p1).toArray]) Tryz.func67 rfl rfl rfl ?_
  show Wp _ _ _ [(0, .slice A0 l0.length c0), (1, .agg (OpD.cells p1).toArray)] _ _
  refine Wp.seq (Wp.region ?_)
  refine WL.do rfl (Do.newP (cs := (OpD.cells p1)) (t := 59) H rfl rfl (fun _ => by kernel_rfl) ?_)
  intro g21 w22 H23
  refine As rfl rfl (WL.nil (Fin.then (Wp.seq (Wp.region (Mv rfl rfl (Kn (v := .pointer (some ⟨g21, 0, none⟩)) rfl rfl rfl (fun _ => by kernel_rfl) (WL.val (v := .int .i64 p1.xKind) rfl (Yl.load rfl (Lds.one Tryz.isAgg3 (Cls.of (H23.cls (i := 0) rfl) rfl))) (WL.val (v := .int .u8 (((u8I p1.xKind).toNat : Nat) : Int)) rfl (Yl.int (e := IntKind.u8.wrap p1.xKind) (Yl.kern rfl rfl (fun _ => by kernel_rfl)) (u8I_wrap _)) ?_))))))))
  refine WL.do rfl (Do.newRow (cs := [.int .u8 (((u8I p1.xKind).toNat : Nat) : Int)]) (t := 5) (sz := 1) (m := 1) H23 rfl rfl (fun _ => by kernel_rfl) rfl (by decide) ?_)
  intro A24 w25 H26
  replace H26 : Own w D w25 [row A24 1 1 (List.flatMap eB ([(u8I p1.xKind)])) 5 1, blk g21 (OpD.cells p1) 59, row A0 l0.length c0 (List.flatMap eB l0) 5 1] := H26
  have H27 : Own w D w25 [row A0 l0.length c0 (List.flatMap eB l0) 5 1, row A24 1 1 (List.flatMap eB ([(u8I p1.xKind)])) 5 1, blk g21 (OpD.cells p1) 59] := H26.pick [2, 0, 1] (by decide) rfl
  refine WL.do rfl (Do.appendW (k := l0.length) (m := 1) (El29) H27 rfl rfl (src_of Tryz.underlying29 (H27.rds (i := 1) rfl) (flat_one eB_one ([(u8I p1.xKind)]))) rfl (by omega) (s := List.length (l0 ++ [(u8I p1.xKind)])) (by first | omega | (simp only [List.length_append, List.length_cons, List.length_nil] <;> omega)) (List.flatMap_append).symm ?_)
  intro A28 c29 w30 H31
  have hl32 : List.length (l0 ++ [(u8I p1.xKind)]) = l0.length + 1 := by simp only [List.length_append, List.length_cons, List.length_nil]
  refine As rfl rfl (WL.nil (Fin.then (Wp.seq (Wp.seq (Wp.region (Kn (v := .pointer (some ⟨g21, 0, none⟩)) rfl rfl rfl (fun _ => by kernel_rfl) (WL.val (v := .int .i64 p1.xKind) rfl (Yl.load rfl (Lds.one Tryz.isAgg3 (Cls.of (H31.cls (i := 2) rfl) rfl))) (WL.nil (Fin.then (Wp.block (Wp.seq (Wp.region (Kn (v := .bool (decide (p1.xKind = 2))) rfl rfl rfl (fun _ => by kernel_rfl) (As rfl rfl (WL.nil (Fin.then ?_))))))))))))))))
  by_cases h33 : p1.xKind = 2
  refine Wp.cond1 rfl (decide_eq_true h33) (Wp.seq ?_)
  have H34 : Own w D w30 [row A24 1 1 (List.flatMap eB ([(u8I p1.xKind)])) 5 1, blk g21 (OpD.cells p1) 59, row A28 (List.length (l0 ++ [(u8I p1.xKind)])) c29 (List.flatMap eB (l0 ++ [(u8I p1.xKind)])) 5 1] := H31.pick [1, 2, 0] (by decide) rfl
  have H36 := H34.drew
  refine Wp.drawnX [] (fun W => ∃ L', Own w D W ([row A24 1 1 (List.flatMap eB ([(u8I p1.xKind)])) 5 1, blk g21 (OpD.cells p1) 59] ++ L')) (by kernel_rfl) (by kernel_rfl) (NoP.then (NoP.block (NoP.then NoP.base))) ⟨_, H36⟩ ?_
  revert H36
  generalize World.drew w30 = w35
  intro H36
  refine GX.take (v := .slice A28 (List.length (l0 ++ [(u8I p1.xKind)])) c29) (rs := []) 0 rfl (by kernel_rfl) (fun _ _ => Yl.move rfl) (GX.take (v := .pointer (some ⟨g21, 1, none⟩)) (rs := []) 1 rfl (by kernel_rfl) (fun _ _ => Yl.kern rfl rfl (fun _ => by kernel_rfl)) (GX.take (v := .string ⟨List.toArray p1.xKey⟩) (rs := []) 2 rfl (by kernel_rfl) (fun _ ⟨_, H9⟩ => Yl.load rfl (Lds.one Tryz.isAgg9 (Cls.of (H9.cls (i := 1) rfl) rfl))) (GX.take (v := .pointer (some ⟨g21, 2, none⟩)) (rs := []) 4 rfl (by kernel_rfl) (fun _ _ => Yl.kern rfl rfl (fun _ => by kernel_rfl)) (GX.take (v := .string ⟨List.toArray p1.xValue⟩) (rs := []) 5 rfl (by kernel_rfl) (fun _ ⟨_, H9⟩ => Yl.load rfl (Lds.one Tryz.isAgg9 (Cls.of (H9.cls (i := 1) rfl) rfl))) ?_))))
  have H37 : Own w D w35 [row A28 (List.length (l0 ++ [(u8I p1.xKind)])) c29 (List.flatMap eB (l0 ++ [(u8I p1.xKind)])) 5 1, row A24 1 1 (List.flatMap eB ([(u8I p1.xKind)])) 5 1, blk g21 (OpD.cells p1) 59] := H36.pick [2, 0, 1] (by decide) rfl
  obtain ⟨r43, hr44⟩ : ∃ q, node_putText (l0 ++ [(u8I p1.xKind)]) p1.xKey = q := ⟨_, rfl⟩
  obtain ⟨D38, HP39, ro40, bk41, rr42⟩ := Own.enter1 H37
  refine GX.do 3 rfl (by kernel_rfl) (Do.call Tryz.call65 rfl (node_putText_ok _ _ A28 (List.length (l0 ++ [(u8I p1.xKind)])) c29 (l0 ++ [(u8I p1.xKind)]) p1.xKey r43 HP39 rfl (by first | omega | (simp only [List.length_append, List.length_cons, List.length_nil, List.length_take, List.length_drop, List.length_set]; omega)) (by first | omega | (simp only [List.length_cons, List.length_nil, List.length_append]; omega)) hr44) ?_)
  rintro _ w45 ⟨A48, c49, rfl, HQ46, hk50⟩
  have H47 : Own w D w45 [row A48 r43.length c49 (List.flatMap eB r43) 5 1, row A24 1 1 (List.flatMap eB ([(u8I p1.xKind)])) 5 1, blk g21 (OpD.cells p1) 59] := bk41 _ _ HQ46
  have hb51 := H47.rowC (i := 0) rfl
  replace hk50 : r43.length ≤ List.length (l0 ++ [(u8I p1.xKind)]) + p1.xKey.length + 10 := hk50
  have H52 : Own w D w45 [row A24 1 1 (List.flatMap eB ([(u8I p1.xKind)])) 5 1, blk g21 (OpD.cells p1) 59, row A48 r43.length c49 (List.flatMap eB r43) 5 1] := H47.pick [1, 2, 0] (by decide) rfl
  refine ⟨.inr ⟨_, H52⟩, ?_⟩
  have H53 : Own w D w45 [row A48 r43.length c49 (List.flatMap eB r43) 5 1, row A24 1 1 (List.flatMap eB ([(u8I p1.xKind)])) 5 1, blk g21 (OpD.cells p1) 59] := H52.pick [2, 0, 1] (by decide) rfl
  obtain ⟨r59, hr60⟩ : ∃ q, node_putText r43 p1.xValue = q := ⟨_, rfl⟩
  obtain ⟨D54, HP55, ro56, bk57, rr58⟩ := Own.enter1 H53
  refine GX.do 6 rfl (by kernel_rfl) (Do.call Tryz.call65 rfl (node_putText_ok _ _ A48 r43.length c49 r43 p1.xValue r59 HP55 rfl (by omega) (by first | omega | (simp only [List.length_cons, List.length_nil, List.length_append]; omega)) hr60) ?_)
  rintro _ w61 ⟨A64, c65, rfl, HQ62, hk66⟩
  have H63 : Own w D w61 [row A64 r59.length c65 (List.flatMap eB r59) 5 1, row A24 1 1 (List.flatMap eB ([(u8I p1.xKind)])) 5 1, blk g21 (OpD.cells p1) 59] := bk57 _ _ HQ62
  have hb67 := H63.rowC (i := 0) rfl
  replace hk66 : r59.length ≤ r43.length + p1.xValue.length + 10 := hk66
  have H68 : Own w D w61 [row A24 1 1 (List.flatMap eB ([(u8I p1.xKind)])) 5 1, blk g21 (OpD.cells p1) 59, row A64 r59.length c65 (List.flatMap eB r59) 5 1] := H63.pick [1, 2, 0] (by decide) rfl
  refine ⟨.inr ⟨_, H68⟩, ?_⟩
  refine GX.take (v := .slice A64 r59.length c65) (rs := []) 7 rfl (by kernel_rfl) (fun _ _ => Yl.assign rfl) (GX.done (by kernel_rfl) (Fin.then (Wp.ret (Fin.blockR (Fin.thenR (Fin.res (res1 rfl rfl) ?_))))))
  have H69 := H68.pick [2] (by decide) rfl
  have e : node_putOp l0 p1 = r59 := Eq.trans (if_pos h33) (Eq.trans (bnd_of hr44) (bnd_of hr60))
  obtain rfl := e.symm.trans hr
  exact ⟨A64, c65, rfl, H69, (by first | omega | (simp only [List.length_cons, List.length_nil, List.length_append]; omega))⟩
  refine Wp.cond0 rfl (decide_eq_false h33) (Wp.seq (Wp.region (Kn (v := .bool (decide (p1.xKind = 3))) rfl rfl rfl (fun _ => by kernel_rfl) (As rfl rfl (WL.nil (Fin.then ?_))))))
  by_cases h70 : p1.xKind = 3
  refine Wp.cond1 rfl (decide_eq_true h70) (Wp.seq (Wp.region (Mv rfl rfl (Kn (v := .pointer (some ⟨g21, 1, none⟩)) rfl rfl rfl (fun _ => by kernel_rfl) (WL.val (v := .string ⟨List.toArray p1.xKey⟩) rfl (Yl.load rfl (Lds.one Tryz.isAgg9 (Cls.of (H31.cls (i := 2) rfl) rfl))) ?_)))))
  obtain ⟨r76, hr77⟩ : ∃ q, node_putText (l0 ++ [(u8I p1.xKind)]) p1.xKey = q := ⟨_, rfl⟩
  obtain ⟨D71, HP72, ro73, bk74, rr75⟩ := Own.enter1 H31
  refine WL.do rfl (Do.call Tryz.call65 rfl (node_putText_ok _ _ A28 (List.length (l0 ++ [(u8I p1.xKind)])) c29 (l0 ++ [(u8I p1.xKind)]) p1.xKey r76 HP72 rfl (by first | omega | (simp only [List.length_append, List.length_cons, List.length_nil, List.length_take, List.length_drop, List.length_set]; omega)) (by first | omega | (simp only [List.length_cons, List.length_nil, List.length_append]; omega)) hr77) ?_)
  rintro _ w78 ⟨A81, c82, rfl, HQ79, hk83⟩
  have H80 : Own w D w78 [row A81 r76.length c82 (List.flatMap eB r76) 5 1, row A24 1 1 (List.flatMap eB ([(u8I p1.xKind)])) 5 1, blk g21 (OpD.cells p1) 59] := bk74 _ _ HQ79
  have hb84 := H80.rowC (i := 0) rfl
  replace hk83 : r76.length ≤ List.length (l0 ++ [(u8I p1.xKind)]) + p1.xKey.length + 10 := hk83
  refine As rfl rfl (WL.nil (Fin.then (Wp.ret (Fin.blockR (Fin.thenR (Fin.res (res1 rfl rfl) ?_))))))
  have H85 := H80.pick [0] (by decide) rfl
  have e : node_putOp l0 p1 = r76 := Eq.trans (if_neg h33) (Eq.trans (if_pos h70) (bnd_of hr77))
  obtain rfl := e.symm.trans hr
  exact ⟨A81, c82, rfl, H85, (by first | omega | (simp only [List.length_cons, List.length_nil, List.length_append]; omega))⟩
  refine Wp.cond0 rfl (decide_eq_false h70) (Wp.skip (Fin.blockN (Fin.then (Wp.seq ?_))))
  have H86 : Own w D w30 [row A24 1 1 (List.flatMap eB ([(u8I p1.xKind)])) 5 1, blk g21 (OpD.cells p1) 59, row A28 (List.length (l0 ++ [(u8I p1.xKind)])) c29 (List.flatMap eB (l0 ++ [(u8I p1.xKind)])) 5 1] := H31.pick [1, 2, 0] (by decide) rfl
  have H88 := H86.drew
  refine Wp.drawnX [] (fun W => ∃ L', Own w D W ([row A24 1 1 (List.flatMap eB ([(u8I p1.xKind)])) 5 1, blk g21 (OpD.cells p1) 59] ++ L')) (by kernel_rfl) (by kernel_rfl) (NoP.then NoP.base) ⟨_, H88⟩ ?_
  revert H88
  generalize World.drew w30 = w87
  intro H88
  refine GX.take (v := .slice A28 (List.length (l0 ++ [(u8I p1.xKind)])) c29) (rs := []) 0 rfl (by kernel_rfl) (fun _ _ => Yl.move rfl) (GX.take (v := .pointer (some ⟨g21, 3, none⟩)) (rs := []) 1 rfl (by kernel_rfl) (fun _ _ => Yl.kern rfl rfl (fun _ => by kernel_rfl)) (GX.take (v := .string ⟨List.toArray p1.xLo⟩) (rs := []) 2 rfl (by kernel_rfl) (fun _ ⟨_, H9⟩ => Yl.load rfl (Lds.one Tryz.isAgg9 (Cls.of (H9.cls (i := 1) rfl) rfl))) (GX.take (v := .pointer (some ⟨g21, 4, none⟩)) (rs := []) 4 rfl (by kernel_rfl) (fun _ _ => Yl.kern rfl rfl (fun _ => by kernel_rfl)) (GX.take (v := .string ⟨List.toArray p1.xHi⟩) (rs := []) 5 rfl (by kernel_rfl) (fun _ ⟨_, H9⟩ => Yl.load rfl (Lds.one Tryz.isAgg9 (Cls.of (H9.cls (i := 1) rfl) rfl))) ?_))))
  have H89 : Own w D w87 [row A28 (List.length (l0 ++ [(u8I p1.xKind)])) c29 (List.flatMap eB (l0 ++ [(u8I p1.xKind)])) 5 1, row A24 1 1 (List.flatMap eB ([(u8I p1.xKind)])) 5 1, blk g21 (OpD.cells p1) 59] := H88.pick [2, 0, 1] (by decide) rfl
  obtain ⟨r95, hr96⟩ : ∃ q, node_putText (l0 ++ [(u8I p1.xKind)]) p1.xLo = q := ⟨_, rfl⟩
  obtain ⟨D90, HP91, ro92, bk93, rr94⟩ := Own.enter1 H89
  refine GX.do 3 rfl (by kernel_rfl) (Do.call Tryz.call65 rfl (node_putText_ok _ _ A28 (List.length (l0 ++ [(u8I p1.xKind)])) c29 (l0 ++ [(u8I p1.xKind)]) p1.xLo r95 HP91 rfl (by first | omega | (simp only [List.length_append, List.length_cons, List.length_nil, List.length_take, List.length_drop, List.length_set]; omega)) (by first | omega | (simp only [List.length_cons, List.length_nil, List.length_append]; omega)) hr96) ?_)
  rintro _ w97 ⟨A100, c101, rfl, HQ98, hk102⟩
  have H99 : Own w D w97 [row A100 r95.length c101 (List.flatMap eB r95) 5 1, row A24 1 1 (List.flatMap eB ([(u8I p1.xKind)])) 5 1, blk g21 (OpD.cells p1) 59] := bk93 _ _ HQ98
  have hb103 := H99.rowC (i := 0) rfl
  replace hk102 : r95.length ≤ List.length (l0 ++ [(u8I p1.xKind)]) + p1.xLo.length + 10 := hk102
  have H104 : Own w D w97 [row A24 1 1 (List.flatMap eB ([(u8I p1.xKind)])) 5 1, blk g21 (OpD.cells p1) 59, row A100 r95.length c101 (List.flatMap eB r95) 5 1] := H99.pick [1, 2, 0] (by decide) rfl
  refine ⟨.inr ⟨_, H104⟩, ?_⟩
  have H105 : Own w D w97 [row A100 r95.length c101 (List.flatMap eB r95) 5 1, row A24 1 1 (List.flatMap eB ([(u8I p1.xKind)])) 5 1, blk g21 (OpD.cells p1) 59] := H104.pick [2, 0, 1] (by decide) rfl
  obtain ⟨r111, hr112⟩ : ∃ q, node_putText r95 p1.xHi = q := ⟨_, rfl⟩
  obtain ⟨D106, HP107, ro108, bk109, rr110⟩ := Own.enter1 H105
  refine GX.do 6 rfl (by kernel_rfl) (Do.call Tryz.call65 rfl (node_putText_ok _ _ A100 r95.length c101 r95 p1.xHi r111 HP107 rfl (by omega) (by first | omega | (simp only [List.length_cons, List.length_nil, List.length_append]; omega)) hr112) ?_)
  rintro _ w113 ⟨A116, c117, rfl, HQ114, hk118⟩
  have H115 : Own w D w113 [row A116 r111.length c117 (List.flatMap eB r111) 5 1, row A24 1 1 (List.flatMap eB ([(u8I p1.xKind)])) 5 1, blk g21 (OpD.cells p1) 59] := bk109 _ _ HQ114
  have hb119 := H115.rowC (i := 0) rfl
  replace hk118 : r111.length ≤ r95.length + p1.xHi.length + 10 := hk118
  have H120 : Own w D w113 [row A24 1 1 (List.flatMap eB ([(u8I p1.xKind)])) 5 1, blk g21 (OpD.cells p1) 59, row A116 r111.length c117 (List.flatMap eB r111) 5 1] := H115.pick [1, 2, 0] (by decide) rfl
  refine ⟨.inr ⟨_, H120⟩, ?_⟩
  refine GX.take (v := .slice A116 r111.length c117) (rs := []) 7 rfl (by kernel_rfl) (fun _ _ => Yl.assign rfl) (GX.done (by kernel_rfl) (Fin.then (Wp.ret (Fin.res (res1 rfl rfl) ?_))))
  have H121 := H120.pick [2] (by decide) rfl
  have e : node_putOp l0 p1 = r111 := Eq.trans (if_neg h33) (Eq.trans (if_neg h70) (Eq.trans (bnd_of hr96) (bnd_of hr112)))
  obtain rfl := e.symm.trans hr
  exact ⟨A116, c117, rfl, H121, (by first | omega | (simp only [List.length_cons, List.length_nil, List.length_append]; omega))⟩

def node_leaf_write_L0 : List PairD → List UInt8 → (List UInt8)
  | [], l43 => l43
  | x54 :: q45, l43 => bnd (node_putText l43 x54.xKey) fun yr71 => bnd (node_putText yr71 x54.xValue) fun yr87 => node_leaf_write_L0 q45 yr87

def node_leaf_write (p0 : leafT) : (List UInt8) :=
  bnd (node_putNum ([1]) ((p0.xpairs.ls.length : Nat) : Int)) fun yr32 => bnd (node_leaf_write_L0 p0.xpairs.ls yr32) fun sLrbL => sLrbL

set_option maxRecDepth 100000 in
theorem node_leaf_write_ok (w : World) (D : Nat → Prop) (p0 : leafT) (A0x0 : Option Addr) (n0x0 c0x0 : Nat) (r0 : List UInt8) (H : Own w D w []) (hn0x0 : n0x0 = p0.xpairs.ls.length) (hx0x0 : Ro w D fun w' => Rds w' 2 A0x0 p0.xpairs.ls.length (List.flatMap PairD.cells p0.xpairs.ls)) (hb0x0 : p0.xpairs.ls.length ≤ c0x0 ∧ p0.xpairs.ls.length ≤ 9223372036854775807) (hh0 : (p0.xpairs.ls.length ≤ 1048576 ∧ ∀ x ∈ p0.xpairs.ls, x.xKey.length ≤ 1048576 ∧ x.xValue.length ≤ 1048576)) (hr : node_leaf_write p0 = r0) :
    Calls Tryz.prog 37 #[.agg #[.slice A0x0 n0x0 c0x0]] w (Ret fun v w' => ∃ (B0 : Option Addr) (b0 : Nat), v = .slice B0 r0.length b0 ∧ Own w D w' [row B0 r0.length b0 (List.flatMap eB r0) 5 1] ∧ (((r0.length : Nat) : Int) ≤ 11 + 2097172 * ((p0.xpairs.ls.length : Nat) : Int))) := by
  subst hn0x0
  have hh0a := hh0.1
  refine Calls.body (args := [.agg #[.slice A0x0 p0.xpairs.ls.length c0x0]]) Tryz.func37 rfl rfl rfl ?_
  show Wp _ _ _ [(0, .agg #[.slice A0x0 p0.xpairs.ls.length c0x0])] _ _
  refine Wp.seq (Wp.region ?_)
  refine WL.do rfl (Do.newP (cs := [.slice A0x0 p0.xpairs.ls.length c0x0]) (t := 74) H rfl rfl (fun _ => by kernel_rfl) ?_)
  intro g21 w22 H23
  refine As rfl rfl (WL.nil (Fin.then (Wp.seq (Wp.region ?_))))
  refine WL.do rfl (Do.newRow (cs := [.int .u8 1]) (t := 5) (sz := 1) (m := 1) H23 rfl rfl (fun _ => by kernel_rfl) rfl (by decide) ?_)
  intro A24 w25 H26
  replace H26 : Own w D w25 [row A24 1 1 (List.flatMap eB ([1])) 5 1, blk g21 [.slice A0x0 p0.xpairs.ls.length c0x0] 74] := H26
  refine Kn (v := .pointer (some ⟨g21, 0, none⟩)) rfl rfl rfl (fun _ => by kernel_rfl) (WL.val (v := .slice A0x0 p0.xpairs.ls.length c0x0) rfl (Yl.load rfl (Lds.one Tryz.isAgg22 (Cls.of (H26.cls (i := 1) rfl) rfl))) (Kn (v := .int .i64 ((p0.xpairs.ls.length : Nat) : Int)) rfl rfl rfl (fun _ => by kernel_rfl) ?_))
  obtain ⟨r32, hr33⟩ : ∃ q, node_putNum ([1]) ((p0.xpairs.ls.length : Nat) : Int) = q := ⟨_, rfl⟩
  obtain ⟨D27, HP28, ro29, bk30, rr31⟩ := Own.enter1 H26
  refine WL.do rfl (Do.call Tryz.call64 rfl (node_putNum_ok _ _ A24 1 1 ([1]) ((p0.xpairs.ls.length : Nat) : Int) r32 HP28 rfl (by simp) (by first | omega | (simp only [List.length_cons, List.length_nil, List.length_append]; omega)) hr33) ?_)
  rintro _ w34 ⟨A37, c38, rfl, HQ35, hk39⟩
  have H36 := bk30 _ _ HQ35
  have hb40 := H36.rowC (i := 0) rfl
  replace hk39 : r32.length ≤ 1 + 10 := hk39
  refine As rfl rfl (WL.nil (Fin.then (Wp.seq (Wp.seq (Wp.region (Kn (v := .pointer (some ⟨g21, 0, none⟩)) rfl rfl rfl (fun _ => by kernel_rfl) (WL.val (v := .slice A0x0 p0.xpairs.ls.length c0x0) rfl (Yl.load rfl (Lds.one Tryz.isAgg22 (Cls.of (H36.cls (i := 1) rfl) rfl))) (Kn (v := .int .i64 ((p0.xpairs.ls.length : Nat) : Int)) rfl rfl rfl (fun _ => by kernel_rfl) (Mv rfl rfl (WL.nil (Fin.then (Wp.block ?_))))))))))))
  have H46 := H36.pick [1, 0] (by decide) rfl
  refine Wp.loop (ι := (Option Addr) × Nat × (List UInt8) × Nat) (fun i => [(3, .slice i.1 i.2.2.1.length i.2.1), (14, .int .i64 ((i.2.2.2 : Nat) : Int)), (13, .int .i64 ((p0.xpairs.ls.length : Nat) : Int)), (12, .slice A0x0 p0.xpairs.ls.length c0x0), (2, .slice none 0 0)]) (fun (i : (Option Addr) × Nat × (List UInt8) × Nat) w' => Own w D w' [blk g21 [.slice A0x0 p0.xpairs.ls.length c0x0] 74, row i.1 i.2.2.1.length i.2.1 (List.flatMap eB i.2.2.1) 5 1] ∧ (i.2.2.2 ≤ p0.xpairs.ls.length ∧ ((i.2.2.1.length : Nat) : Int) ≤ 11 + 2097172 * ((i.2.2.2 : Nat) : Int) ∧ node_leaf_write_L0 p0.xpairs.ls r32 = node_leaf_write_L0 (List.drop i.2.2.2 p0.xpairs.ls) i.2.2.1)) (fun i => p0.xpairs.ls.length - i.2.2.2) (A37, c38, r32, 0) ⟨rfl, rfl, rfl, rfl, rfl, trivial⟩ ⟨H46, (show 0 ≤ p0.xpairs.ls.length ∧ ((r32.length : Nat) : Int) ≤ 11 + 2097172 * ((0 : Nat) : Int) ∧ node_leaf_write_L0 p0.xpairs.ls r32 = node_leaf_write_L0 (List.drop 0 p0.xpairs.ls) r32 from ⟨by omega, by omega, rfl⟩)⟩ ?_
  rintro ⟨A41, c42, l43, k44⟩ w47 ⟨H48, hf49⟩
  show Wp _ _ _ [(3, .slice A41 l43.length c42), (14, .int .i64 ((k44 : Nat) : Int)), (13, .int .i64 ((p0.xpairs.ls.length : Nat) : Int)), (12, .slice A0x0 p0.xpairs.ls.length c0x0), (2, .slice none 0 0)] _ _
  replace hf49 : k44 ≤ p0.xpairs.ls.length ∧ ((l43.length : Nat) : Int) ≤ 11 + 2097172 * ((k44 : Nat) : Int) ∧ node_leaf_write_L0 p0.xpairs.ls r32 = node_leaf_write_L0 (List.drop k44 p0.xpairs.ls) l43 := hf49
  obtain ⟨hi51, hi52, hq50⟩ := hf49
  refine Wp.seq (Wp.region (Kn (v := .bool (decide (((k44 : Nat) : Int) < ((p0.xpairs.ls.length : Nat) : Int)))) rfl rfl rfl (fun _ => by kernel_rfl) (WL.nil (Fin.then (Wp.seq ?_)))))
  by_cases h53 : ((k44 : Nat) : Int) < ((p0.xpairs.ls.length : Nat) : Int)
  obtain ⟨x54, hx55⟩ := rds_at (ls := p0.xpairs.ls) (i := k44) PairD.len (by decide) (H48.ro hx0x0) (by first | omega | (simp; done) | (simp; omega))
  have hz56 : x54.xKey.length ≤ 1048576 ∧ x54.xValue.length ≤ 1048576 := hh0.2 _ (List.mem_of_getElem? hx55)
  have hd57 := drop_at hx55
  refine Wp.cond1 rfl (decide_eq_true h53) (Wp.skip (Fin.then (Wp.seq (Wp.block (Wp.seq (Wp.region (WL.val (v := .pointer (some ⟨ab A0x0, ao A0x0 + k44 * 2, none⟩)) rfl (Yl.indexAddr (El22) rfl rfl ((H48.ro hx0x0).addr (i := k44) (by omega)) (by omega)) (WL.val (v := .agg (PairD.cells x54).toArray) rfl (Yl.load rfl (Lds.agg (cs := (PairD.cells x54)) Tryz.isAgg44 Tryz.sizeOf44 ((H48.ro hx0x0).elem PairD.len hx55 (by decide)))) ?_))))))))
  refine WL.do rfl (Do.newP (cs := [.string ⟨List.toArray ([])⟩, .string ⟨List.toArray ([])⟩]) (t := 44) H48 rfl rfl (fun _ => by kernel_rfl) ?_)
  intro g58 w59 H60
  refine WL.do0 (Do.store (vs := (PairD.cells x54)) (o := 0) H60 rfl rfl Tryz.sizeOf44 rfl rfl rfl rfl ?_)
  intro w61 H62
  refine WL.nil (Fin.then ?_)
  have H64 := H62.drew
  refine Wp.drawnX [] (fun W => ∃ L', Own w D W ([blk g58 (PairD.cells x54) 44, blk g21 [.slice A0x0 p0.xpairs.ls.length c0x0] 74] ++ L')) (by kernel_rfl) (by kernel_rfl) (NoP.block (NoP.then (NoP.then (NoP.block (NoP.then NoP.base))))) ⟨_, H64⟩ ?_
  revert H64
  generalize World.drew w61 = w63
  intro H64
  refine GX.take (v := .slice A41 l43.length c42) (rs := []) 0 rfl (by kernel_rfl) (fun _ _ => Yl.move rfl) (GX.take (v := .pointer (some ⟨g58, 0, none⟩)) (rs := []) 1 rfl (by kernel_rfl) (fun _ _ => Yl.kern rfl rfl (fun _ => by kernel_rfl)) (GX.take (v := .string ⟨List.toArray x54.xKey⟩) (rs := []) 2 rfl (by kernel_rfl) (fun _ ⟨_, H9⟩ => Yl.load rfl (Lds.one Tryz.isAgg9 (Cls.of (H9.cls (i := 0) rfl) rfl))) (GX.take (v := .pointer (some ⟨g58, 1, none⟩)) (rs := []) 4 rfl (by kernel_rfl) (fun _ _ => Yl.kern rfl rfl (fun _ => by kernel_rfl)) (GX.take (v := .string ⟨List.toArray x54.xValue⟩) (rs := []) 5 rfl (by kernel_rfl) (fun _ ⟨_, H9⟩ => Yl.load rfl (Lds.one Tryz.isAgg9 (Cls.of (H9.cls (i := 0) rfl) rfl))) ?_))))
  have H65 := H64.pick [2, 0, 1] (by decide) rfl
  obtain ⟨r71, hr72⟩ : ∃ q, node_putText l43 x54.xKey = q := ⟨_, rfl⟩
  obtain ⟨D66, HP67, ro68, bk69, rr70⟩ := Own.enter1 H65
  refine GX.do 3 rfl (by kernel_rfl) (Do.call Tryz.call65 rfl (node_putText_ok _ _ A41 l43.length c42 l43 x54.xKey r71 HP67 rfl (by omega) (by first | omega | (simp only [List.length_cons, List.length_nil, List.length_append]; omega)) hr72) ?_)
  rintro _ w73 ⟨A76, c77, rfl, HQ74, hk78⟩
  have H75 := bk69 _ _ HQ74
  have hb79 := H75.rowC (i := 0) rfl
  replace hk78 : r71.length ≤ l43.length + x54.xKey.length + 10 := hk78
  have H80 := H75.pick [1, 2, 0] (by decide) rfl
  refine ⟨.inr ⟨_, H80⟩, ?_⟩
  have H81 := H80.pick [2, 0, 1] (by decide) rfl
  obtain ⟨r87, hr88⟩ : ∃ q, node_putText r71 x54.xValue = q := ⟨_, rfl⟩
  obtain ⟨D82, HP83, ro84, bk85, rr86⟩ := Own.enter1 H81
  refine GX.do 6 rfl (by kernel_rfl) (Do.call Tryz.call65 rfl (node_putText_ok _ _ A76 r71.length c77 r71 x54.xValue r87 HP83 rfl (by omega) (by first | omega | (simp only [List.length_cons, List.length_nil, List.length_append]; omega)) hr88) ?_)
  rintro _ w89 ⟨A92, c93, rfl, HQ90, hk94⟩
  have H91 := bk85 _ _ HQ90
  have hb95 := H91.rowC (i := 0) rfl
  replace hk94 : r87.length ≤ r71.length + x54.xValue.length + 10 := hk94
  have H96 := H91.pick [1, 2, 0] (by decide) rfl
  refine ⟨.inr ⟨_, H96⟩, ?_⟩
  refine GX.take (v := .slice A92 r87.length c93) (rs := []) 7 rfl (by kernel_rfl) (fun _ _ => Yl.assign rfl) (GX.done (by kernel_rfl) (Fin.blockN (Fin.then (Wp.region (WL.val (v := .int .i64 ((k44 + 1 : Nat) : Int)) rfl (Yl.int (e := IntKind.i64.wrap (((k44 : Nat) : Int) + 1)) (Yl.kern rfl rfl (fun _ => by kernel_rfl)) (by rw [IntWalk.i64_in _ (by omega)]; omega)) (Mv rfl rfl (WL.nil ?_)))))))
  have H97 := H96.pick [1, 2] (by decide) rfl
  exact Fin.round (A92, c93, r87, k44 + 1) ⟨rfl, rfl, rfl, rfl, rfl, trivial⟩ ⟨H97, (show (k44 + 1) ≤ p0.xpairs.ls.length ∧ ((r87.length : Nat) : Int) ≤ 11 + 2097172 * (((k44 + 1) : Nat) : Int) ∧ node_leaf_write_L0 p0.xpairs.ls r32 = node_leaf_write_L0 (List.drop (k44 + 1) p0.xpairs.ls) r87 from ⟨by omega, by omega, Eq.trans (hq50) (Eq.trans (congrArg (fun q => node_leaf_write_L0 q l43) hd57) (Eq.trans (bnd_of hr72) (bnd_of hr88)))⟩)⟩ (by show p0.xpairs.ls.length - (k44 + 1) < p0.xpairs.ls.length - k44; omega)
  refine Wp.cond0 rfl (decide_eq_false h53) (Wp.exit (Fin.thenX ?_))
  have hL98 : node_leaf_write_L0 p0.xpairs.ls r32 = l43 := Eq.trans (hq50) (Eq.trans (congrArg (fun q => node_leaf_write_L0 q l43) (drop_end (ls := p0.xpairs.ls) (i := k44) (by omega))) rfl)
  refine Fin.thenX (Fin.blockX (Fin.then (Wp.seq (Wp.region (Mv rfl rfl (As rfl rfl (WL.nil (Fin.then (Wp.ret (Fin.res (res1 rfl rfl) ?_))))))))))
  have H99 := H48.pick [1] (by decide) rfl
  have e : node_leaf_write p0 = l43 := Eq.trans (bnd_of hr33) (bnd_of hL98)
  obtain rfl := e.symm.trans hr
  exact ⟨A41, c42, rfl, H99, (by first | omega | (simp only [List.length_cons, List.length_nil, List.length_append]; omega))⟩

def node_stem_write_L0 (p0 : stemT) : List Int → List UInt8 → (List UInt8)
  | [], l43 => l43
  | x54 :: q45, l43 => bnd (node_putNum l43 x54) fun yr63 => node_stem_write_L0 p0 q45 yr63

def node_stem_write_L1 (p0 : stemT) : List (List UInt8) → List UInt8 → (List UInt8)
  | [], l76 => l76
  | x87 :: q78, l76 => bnd (node_putText l76 x87) fun yr97 => node_stem_write_L1 p0 q78 yr97

def node_stem_write_L3 : List EntryD → List UInt8 → (List UInt8)
  | [], l144 => l144
  | x155 :: q146, l144 => bnd (octet_Num x155.xSeq) fun yr169 => bnd (node_putOp (l144 ++ yr169) x155.xOp) fun yr190 => node_stem_write_L3 q146 yr190

def node_stem_write_L2 : List (Ll EntryD) → List UInt8 → (List UInt8)
  | [], l110 => l110
  | x121 :: q112, l110 => bnd (node_putNum l110 ((x121.ls.length : Nat) : Int)) fun yr133 => bnd (node_stem_write_L3 x121.ls yr133) fun sLrbLaLaLsbL => node_stem_write_L2 q112 sLrbLaLaLsbL

def node_stem_write (p0 : stemT) : (List UInt8) :=
  bnd (node_putNum ([2]) ((p0.xkids.ls.length : Nat) : Int)) fun yr32 => bnd (node_stem_write_L0 p0 p0.xkids.ls yr32) fun sLrbL => bnd (node_stem_write_L1 p0 p0.xpivots.ls sLrbL) fun sLrbLaL => bnd (node_stem_write_L2 p0.xbuffers.ls sLrbLaL) fun sLrbLaLaL => sLrbLaLaL

set_option maxRecDepth 100000 in
theorem node_stem_write_ok (w : World) (D : Nat → Prop) (p0 : stemT) (A0x0 : Option Addr) (n0x0 c0x0 : Nat) (A0x1 : Option Addr) (n0x1 c0x1 : Nat) (A0x2 : Option Addr) (n0x2 c0x2 : Nat) (d0x2 : List Row46D) (r0 : List UInt8) (H : Own w D w []) (hn0x0 : n0x0 = p0.xkids.ls.length) (hx0x0 : Ro w D fun w' => Rds w' 1 A0x0 p0.xkids.ls.length (List.flatMap (eI .i64) p0.xkids.ls)) (hb0x0 : p0.xkids.ls.length ≤ c0x0 ∧ p0.xkids.ls.length ≤ 9223372036854775807) (hn0x1 : n0x1 = p0.xpivots.ls.length) (hx0x1 : Ro w D fun w' => Rds w' 1 A0x1 p0.xpivots.ls.length (List.flatMap eS p0.xpivots.ls)) (hb0x1 : p0.xpivots.ls.length ≤ c0x1 ∧ p0.xpivots.ls.length ≤ 9223372036854775807) (hd0x2 : List.map Row46D.abs d0x2 = p0.xbuffers.ls) (hn0x2 : n0x2 = p0.xbuffers.ls.length) (hx0x2 : Ro w D fun w' => Rds w' 1 A0x2 p0.xbuffers.ls.length (List.flatMap (Sv.enc (β := EntryD)) d0x2)) (hb0x2 : p0.xbuffers.ls.length ≤ c0x2 ∧ p0.xbuffers.ls.length ≤ 9223372036854775807) (hm0x2 : ∀ x ∈ d0x2, Ro w D (fun w' => Rds w' 7 x.A x.ls.length (List.flatMap EntryD.cells x.ls)) ∧ x.ls.length ≤ 9223372036854775807) (hh0 : (p0.xbuffers.ls.length ≤ 8 ∧ p0.xkids.ls.length ≤ 8 ∧ (p0.xpivots.ls.length ≤ 8 ∧ ∀ x ∈ p0.xpivots.ls, x.length ≤ 1048576) ∧ ∀ b ∈ p0.xbuffers.ls, b.ls.length ≤ 1048576 ∧ ∀ x ∈ b.ls, x.xSeq ≤ 18446744073709551615 ∧ x.xOp.xKey.length ≤ 1048576 ∧ x.xOp.xValue.length ≤ 1048576 ∧ x.xOp.xLo.length ≤ 1048576 ∧ x.xOp.xHi.length ≤ 1048576)) (hr : node_stem_write p0 = r0) :
    Calls Tryz.prog 38 #[.agg #[.slice A0x0 n0x0 c0x0, .slice A0x1 n0x1 c0x1, .slice A0x2 n0x2 c0x2]] w (Ret fun v w' => ∃ (B0 : Option Addr) (b0 : Nat), v = .slice B0 r0.length b0 ∧ Own w D w' [row B0 r0.length b0 (List.flatMap eB r0) 5 1] ∧ (r0.length ≤ 17592454480123)) := by
  subst hn0x0 hn0x1 hn0x2
  have hdl0x2 := abs_len hd0x2
  have hh0a := hh0.1
  have hh0b := hh0.2.1
  have hh0c := hh0.2.2.1.1
  refine Calls.body (args := [.agg #[.slice A0x0 p0.xkids.ls.length c0x0, .slice A0x1 p0.xpivots.ls.length c0x1, .slice A0x2 p0.xbuffers.ls.length c0x2]]) Tryz.func38 rfl rfl rfl ?_
  show Wp _ _ _ [(0, .agg #[.slice A0x0 p0.xkids.ls.length c0x0, .slice A0x1 p0.xpivots.ls.length c0x1, .slice A0x2 p0.xbuffers.ls.length c0x2])] _ _
  refine Wp.seq (Wp.region ?_)
  refine WL.do rfl (Do.newP (cs := [.slice A0x0 p0.xkids.ls.length c0x0, .slice A0x1 p0.xpivots.ls.length c0x1, .slice A0x2 p0.xbuffers.ls.length c0x2]) (t := 76) H rfl rfl (fun _ => by kernel_rfl) ?_)
  intro g21 w22 H23
  refine As rfl rfl (WL.nil (Fin.then (Wp.seq (Wp.region ?_))))
  refine WL.do rfl (Do.newRow (cs := [.int .u8 2]) (t := 5) (sz := 1) (m := 1) H23 rfl rfl (fun _ => by kernel_rfl) rfl (by decide) ?_)
  intro A24 w25 H26
  replace H26 : Own w D w25 [row A24 1 1 (List.flatMap eB ([2])) 5 1, blk g21 [.slice A0x0 p0.xkids.ls.length c0x0, .slice A0x1 p0.xpivots.ls.length c0x1, .slice A0x2 p0.xbuffers.ls.length c0x2] 76] := H26
  refine Kn (v := .pointer (some ⟨g21, 0, none⟩)) rfl rfl rfl (fun _ => by kernel_rfl) (WL.val (v := .slice A0x0 p0.xkids.ls.length c0x0) rfl (Yl.load rfl (Lds.one Tryz.isAgg23 (Cls.of (H26.cls (i := 1) rfl) rfl))) (Kn (v := .int .i64 ((p0.xkids.ls.length : Nat) : Int)) rfl rfl rfl (fun _ => by kernel_rfl) ?_))
  obtain ⟨r32, hr33⟩ : ∃ q, node_putNum ([2]) ((p0.xkids.ls.length : Nat) : Int) = q := ⟨_, rfl⟩
  obtain ⟨D27, HP28, ro29, bk30, rr31⟩ := Own.enter1 H26
  refine WL.do rfl (Do.call Tryz.call64 rfl (node_putNum_ok _ _ A24 1 1 ([2]) ((p0.xkids.ls.length : Nat) : Int) r32 HP28 rfl (by simp) (by first | omega | (simp only [List.length_cons, List.length_nil, List.length_append]; omega)) hr33) ?_)
  rintro _ w34 ⟨A37, c38, rfl, HQ35, hk39⟩
  have H36 := bk30 _ _ HQ35
  have hb40 := H36.rowC (i := 0) rfl
  replace hk39 : r32.length ≤ 1 + 10 := hk39
  refine As rfl rfl (WL.nil (Fin.then (Wp.seq (Wp.seq (Wp.region (Kn (v := .pointer (some ⟨g21, 0, none⟩)) rfl rfl rfl (fun _ => by kernel_rfl) (WL.val (v := .slice A0x0 p0.xkids.ls.length c0x0) rfl (Yl.load rfl (Lds.one Tryz.isAgg23 (Cls.of (H36.cls (i := 1) rfl) rfl))) (Kn (v := .int .i64 ((p0.xkids.ls.length : Nat) : Int)) rfl rfl rfl (fun _ => by kernel_rfl) (Mv rfl rfl (WL.nil (Fin.then (Wp.block ?_))))))))))))
  have H46 := H36.pick [1, 0] (by decide) rfl
  refine Wp.loop (ι := (Option Addr) × Nat × (List UInt8) × Nat) (fun i => [(3, .slice i.1 i.2.2.1.length i.2.1), (20, .int .i64 ((i.2.2.2 : Nat) : Int)), (19, .int .i64 ((p0.xkids.ls.length : Nat) : Int)), (18, .slice A0x0 p0.xkids.ls.length c0x0), (2, .slice none 0 0), (1, .pointer (some ⟨g21, 0, none⟩))]) (fun (i : (Option Addr) × Nat × (List UInt8) × Nat) w' => Own w D w' [blk g21 [.slice A0x0 p0.xkids.ls.length c0x0, .slice A0x1 p0.xpivots.ls.length c0x1, .slice A0x2 p0.xbuffers.ls.length c0x2] 76, row i.1 i.2.2.1.length i.2.1 (List.flatMap eB i.2.2.1) 5 1] ∧ (i.2.2.2 ≤ p0.xkids.ls.length ∧ ((i.2.2.1.length : Nat) : Int) ≤ 11 + 10 * ((i.2.2.2 : Nat) : Int) ∧ node_stem_write_L0 p0 p0.xkids.ls r32 = node_stem_write_L0 p0 (List.drop i.2.2.2 p0.xkids.ls) i.2.2.1)) (fun i => p0.xkids.ls.length - i.2.2.2) (A37, c38, r32, 0) ⟨rfl, rfl, rfl, rfl, rfl, rfl, trivial⟩ ⟨H46, (show 0 ≤ p0.xkids.ls.length ∧ ((r32.length : Nat) : Int) ≤ 11 + 10 * ((0 : Nat) : Int) ∧ node_stem_write_L0 p0 p0.xkids.ls r32 = node_stem_write_L0 p0 (List.drop 0 p0.xkids.ls) r32 from ⟨by omega, by omega, rfl⟩)⟩ ?_
  rintro ⟨A41, c42, l43, k44⟩ w47 ⟨H48, hf49⟩
  show Wp _ _ _ [(3, .slice A41 l43.length c42), (20, .int .i64 ((k44 : Nat) : Int)), (19, .int .i64 ((p0.xkids.ls.length : Nat) : Int)), (18, .slice A0x0 p0.xkids.ls.length c0x0), (2, .slice none 0 0), (1, .pointer (some ⟨g21, 0, none⟩))] _ _
  replace hf49 : k44 ≤ p0.xkids.ls.length ∧ ((l43.length : Nat) : Int) ≤ 11 + 10 * ((k44 : Nat) : Int) ∧ node_stem_write_L0 p0 p0.xkids.ls r32 = node_stem_write_L0 p0 (List.drop k44 p0.xkids.ls) l43 := hf49
  obtain ⟨hi51, hi52, hq50⟩ := hf49
  refine Wp.seq (Wp.region (Kn (v := .bool (decide (((k44 : Nat) : Int) < ((p0.xkids.ls.length : Nat) : Int)))) rfl rfl rfl (fun _ => by kernel_rfl) (WL.nil (Fin.then (Wp.seq ?_)))))
  by_cases h53 : ((k44 : Nat) : Int) < ((p0.xkids.ls.length : Nat) : Int)
  obtain ⟨x54, hx55⟩ := rds_at (ls := p0.xkids.ls) (i := k44) eI_len (by decide) (H48.ro hx0x0) (by first | omega | (simp; done) | (simp; omega))
  have hd56 := drop_at hx55
  refine Wp.cond1 rfl (decide_eq_true h53) (Wp.skip (Fin.then (Wp.seq (Wp.block (Wp.seq (Wp.region (WL.val (v := .pointer (some ⟨ab A0x0, ao A0x0 + k44 * 1, none⟩)) rfl (Yl.indexAddr (El23) rfl rfl ((H48.ro hx0x0).addr (i := k44) (by omega)) (by omega)) (WL.val (v := .int .i64 x54) rfl (Yl.load rfl (Lds.one Tryz.isAgg3 (((H48.ro hx0x0).elem eI_len hx55 (by decide)).at_ (k := 0) rfl))) (As rfl rfl (WL.nil (Fin.then (Wp.region (Mv rfl rfl (Mv rfl rfl ?_))))))))))))))
  have H57 := H48.pick [1, 0] (by decide) rfl
  obtain ⟨r63, hr64⟩ : ∃ q, node_putNum l43 x54 = q := ⟨_, rfl⟩
  obtain ⟨D58, HP59, ro60, bk61, rr62⟩ := Own.enter1 H57
  refine WL.do rfl (Do.call Tryz.call64 rfl (node_putNum_ok _ _ A41 l43.length c42 l43 x54 r63 HP59 rfl (by omega) (by first | omega | (simp only [List.length_cons, List.length_nil, List.length_append]; omega)) hr64) ?_)
  rintro _ w65 ⟨A68, c69, rfl, HQ66, hk70⟩
  have H67 := bk61 _ _ HQ66
  have hb71 := H67.rowC (i := 0) rfl
  replace hk70 : r63.length ≤ l43.length + 10 := hk70
  refine As rfl rfl (WL.nil (Fin.blockN (Fin.then (Wp.region (WL.val (v := .int .i64 ((k44 + 1 : Nat) : Int)) rfl (Yl.int (e := IntKind.i64.wrap (((k44 : Nat) : Int) + 1)) (Yl.kern rfl rfl (fun _ => by kernel_rfl)) (by rw [IntWalk.i64_in _ (by omega)]; omega)) (Mv rfl rfl (WL.nil ?_)))))))
  have H72 := H67.pick [1, 0] (by decide) rfl
  exact Fin.round (A68, c69, r63, k44 + 1) ⟨rfl, rfl, rfl, rfl, rfl, rfl, trivial⟩ ⟨H72, (show (k44 + 1) ≤ p0.xkids.ls.length ∧ ((r63.length : Nat) : Int) ≤ 11 + 10 * (((k44 + 1) : Nat) : Int) ∧ node_stem_write_L0 p0 p0.xkids.ls r32 = node_stem_write_L0 p0 (List.drop (k44 + 1) p0.xkids.ls) r63 from ⟨by omega, by omega, Eq.trans (hq50) (Eq.trans (congrArg (fun q => node_stem_write_L0 p0 q l43) hd56) (bnd_of hr64))⟩)⟩ (by show p0.xkids.ls.length - (k44 + 1) < p0.xkids.ls.length - k44; omega)
  refine Wp.cond0 rfl (decide_eq_false h53) (Wp.exit (Fin.thenX ?_))
  have hL73 : node_stem_write_L0 p0 p0.xkids.ls r32 = l43 := Eq.trans (hq50) (Eq.trans (congrArg (fun q => node_stem_write_L0 p0 q l43) (drop_end (ls := p0.xkids.ls) (i := k44) (by omega))) rfl)
  refine Fin.thenX (Fin.blockX (Fin.then (Wp.seq (Wp.seq (Wp.region (Kn (v := .pointer (some ⟨g21, 1, none⟩)) rfl rfl rfl (fun _ => by kernel_rfl) (WL.val (v := .slice A0x1 p0.xpivots.ls.length c0x1) rfl (Yl.load rfl (Lds.one Tryz.isAgg24 (Cls.of (H48.cls (i := 0) rfl) rfl))) (Kn (v := .int .i64 ((p0.xpivots.ls.length : Nat) : Int)) rfl rfl rfl (fun _ => by kernel_rfl) (Mv rfl rfl (WL.nil (Fin.then (Wp.block ?_))))))))))))
  have H79 := H48.pick [0, 1] (by decide) rfl
  refine Wp.loop (ι := (Option Addr) × Nat × (List UInt8) × Nat) (fun i => [(3, .slice i.1 i.2.2.1.length i.2.1), (31, .int .i64 ((i.2.2.2 : Nat) : Int)), (30, .int .i64 ((p0.xpivots.ls.length : Nat) : Int)), (29, .slice A0x1 p0.xpivots.ls.length c0x1), (2, .slice none 0 0), (1, .pointer (some ⟨g21, 0, none⟩))]) (fun (i : (Option Addr) × Nat × (List UInt8) × Nat) w' => Own w D w' [blk g21 [.slice A0x0 p0.xkids.ls.length c0x0, .slice A0x1 p0.xpivots.ls.length c0x1, .slice A0x2 p0.xbuffers.ls.length c0x2] 76, row i.1 i.2.2.1.length i.2.1 (List.flatMap eB i.2.2.1) 5 1] ∧ (i.2.2.2 ≤ p0.xpivots.ls.length ∧ ((i.2.2.1.length : Nat) : Int) ≤ 91 + 1048586 * ((i.2.2.2 : Nat) : Int) ∧ node_stem_write_L1 p0 p0.xpivots.ls l43 = node_stem_write_L1 p0 (List.drop i.2.2.2 p0.xpivots.ls) i.2.2.1)) (fun i => p0.xpivots.ls.length - i.2.2.2) (A41, c42, l43, 0) ⟨rfl, rfl, rfl, rfl, rfl, rfl, trivial⟩ ⟨H79, (show 0 ≤ p0.xpivots.ls.length ∧ ((l43.length : Nat) : Int) ≤ 91 + 1048586 * ((0 : Nat) : Int) ∧ node_stem_write_L1 p0 p0.xpivots.ls l43 = node_stem_write_L1 p0 (List.drop 0 p0.xpivots.ls) l43 from ⟨by omega, by omega, rfl⟩)⟩ ?_
  rintro ⟨A74, c75, l76, k77⟩ w80 ⟨H81, hf82⟩
  show Wp _ _ _ [(3, .slice A74 l76.length c75), (31, .int .i64 ((k77 : Nat) : Int)), (30, .int .i64 ((p0.xpivots.ls.length : Nat) : Int)), (29, .slice A0x1 p0.xpivots.ls.length c0x1), (2, .slice none 0 0), (1, .pointer (some ⟨g21, 0, none⟩))] _ _
  replace hf82 : k77 ≤ p0.xpivots.ls.length ∧ ((l76.length : Nat) : Int) ≤ 91 + 1048586 * ((k77 : Nat) : Int) ∧ node_stem_write_L1 p0 p0.xpivots.ls l43 = node_stem_write_L1 p0 (List.drop k77 p0.xpivots.ls) l76 := hf82
  obtain ⟨hi84, hi85, hq83⟩ := hf82
  refine Wp.seq (Wp.region (Kn (v := .bool (decide (((k77 : Nat) : Int) < ((p0.xpivots.ls.length : Nat) : Int)))) rfl rfl rfl (fun _ => by kernel_rfl) (WL.nil (Fin.then (Wp.seq ?_)))))
  by_cases h86 : ((k77 : Nat) : Int) < ((p0.xpivots.ls.length : Nat) : Int)
  obtain ⟨x87, hx88⟩ := rds_at (ls := p0.xpivots.ls) (i := k77) eS_len (by decide) (H81.ro hx0x1) (by first | omega | (simp; done) | (simp; omega))
  have hz89 : x87.length ≤ 1048576 := hh0.2.2.1.2 _ (List.mem_of_getElem? hx88)
  have hd90 := drop_at hx88
  refine Wp.cond1 rfl (decide_eq_true h86) (Wp.skip (Fin.then (Wp.seq (Wp.block (Wp.seq (Wp.region (WL.val (v := .pointer (some ⟨ab A0x1, ao A0x1 + k77 * 1, none⟩)) rfl (Yl.indexAddr (El24) rfl rfl ((H81.ro hx0x1).addr (i := k77) (by omega)) (by omega)) (WL.val (v := .string ⟨List.toArray x87⟩) rfl (Yl.load rfl (Lds.one Tryz.isAgg9 (((H81.ro hx0x1).elem eS_len hx88 (by decide)).at_ (k := 0) rfl))) (As rfl rfl (WL.nil (Fin.then (Wp.region (Mv rfl rfl (Mv rfl rfl ?_))))))))))))))
  have H91 := H81.pick [1, 0] (by decide) rfl
  obtain ⟨r97, hr98⟩ : ∃ q, node_putText l76 x87 = q := ⟨_, rfl⟩
  obtain ⟨D92, HP93, ro94, bk95, rr96⟩ := Own.enter1 H91
  refine WL.do rfl (Do.call Tryz.call65 rfl (node_putText_ok _ _ A74 l76.length c75 l76 x87 r97 HP93 rfl (by omega) (by first | omega | (simp only [List.length_cons, List.length_nil, List.length_append]; omega)) hr98) ?_)
  rintro _ w99 ⟨A102, c103, rfl, HQ100, hk104⟩
  have H101 := bk95 _ _ HQ100
  have hb105 := H101.rowC (i := 0) rfl
  replace hk104 : r97.length ≤ l76.length + x87.length + 10 := hk104
  refine As rfl rfl (WL.nil (Fin.blockN (Fin.then (Wp.region (WL.val (v := .int .i64 ((k77 + 1 : Nat) : Int)) rfl (Yl.int (e := IntKind.i64.wrap (((k77 : Nat) : Int) + 1)) (Yl.kern rfl rfl (fun _ => by kernel_rfl)) (by rw [IntWalk.i64_in _ (by omega)]; omega)) (Mv rfl rfl (WL.nil ?_)))))))
  have H106 := H101.pick [1, 0] (by decide) rfl
  exact Fin.round (A102, c103, r97, k77 + 1) ⟨rfl, rfl, rfl, rfl, rfl, rfl, trivial⟩ ⟨H106, (show (k77 + 1) ≤ p0.xpivots.ls.length ∧ ((r97.length : Nat) : Int) ≤ 91 + 1048586 * (((k77 + 1) : Nat) : Int) ∧ node_stem_write_L1 p0 p0.xpivots.ls l43 = node_stem_write_L1 p0 (List.drop (k77 + 1) p0.xpivots.ls) r97 from ⟨by omega, by omega, Eq.trans (hq83) (Eq.trans (congrArg (fun q => node_stem_write_L1 p0 q l76) hd90) (bnd_of hr98))⟩)⟩ (by show p0.xpivots.ls.length - (k77 + 1) < p0.xpivots.ls.length - k77; omega)
  refine Wp.cond0 rfl (decide_eq_false h86) (Wp.exit (Fin.thenX ?_))
  have hL107 : node_stem_write_L1 p0 p0.xpivots.ls l43 = l76 := Eq.trans (hq83) (Eq.trans (congrArg (fun q => node_stem_write_L1 p0 q l76) (drop_end (ls := p0.xpivots.ls) (i := k77) (by omega))) rfl)
  refine Fin.thenX (Fin.blockX (Fin.then (Wp.seq (Wp.seq (Wp.region (Kn (v := .pointer (some ⟨g21, 2, none⟩)) rfl rfl rfl (fun _ => by kernel_rfl) (WL.val (v := .slice A0x2 p0.xbuffers.ls.length c0x2) rfl (Yl.load rfl (Lds.one Tryz.isAgg25 (Cls.of (H81.cls (i := 0) rfl) rfl))) (Kn (v := .int .i64 ((p0.xbuffers.ls.length : Nat) : Int)) rfl rfl rfl (fun _ => by kernel_rfl) (Mv rfl rfl (WL.nil (Fin.then (Wp.block ?_))))))))))))
  have H113 := H81.pick [0, 1] (by decide) rfl
  refine Wp.loop (ι := (Option Addr) × Nat × (List UInt8) × Nat) (fun i => [(3, .slice i.1 i.2.2.1.length i.2.1), (42, .int .i64 ((i.2.2.2 : Nat) : Int)), (41, .int .i64 ((p0.xbuffers.ls.length : Nat) : Int)), (40, .slice A0x2 p0.xbuffers.ls.length c0x2), (2, .slice none 0 0)]) (fun (i : (Option Addr) × Nat × (List UInt8) × Nat) w' => Own w D w' [blk g21 [.slice A0x0 p0.xkids.ls.length c0x0, .slice A0x1 p0.xpivots.ls.length c0x1, .slice A0x2 p0.xbuffers.ls.length c0x2] 76, row i.1 i.2.2.1.length i.2.1 (List.flatMap eB i.2.2.1) 5 1] ∧ (i.2.2.2 ≤ p0.xbuffers.ls.length ∧ ((i.2.2.1.length : Nat) : Int) ≤ 8388779 + 2199055761418 * ((i.2.2.2 : Nat) : Int) ∧ node_stem_write_L2 p0.xbuffers.ls l76 = node_stem_write_L2 (List.drop i.2.2.2 p0.xbuffers.ls) i.2.2.1)) (fun i => p0.xbuffers.ls.length - i.2.2.2) (A74, c75, l76, 0) ⟨rfl, rfl, rfl, rfl, rfl, trivial⟩ ⟨H113, (show 0 ≤ p0.xbuffers.ls.length ∧ ((l76.length : Nat) : Int) ≤ 8388779 + 2199055761418 * ((0 : Nat) : Int) ∧ node_stem_write_L2 p0.xbuffers.ls l76 = node_stem_write_L2 (List.drop 0 p0.xbuffers.ls) l76 from ⟨by omega, by omega, rfl⟩)⟩ ?_
  rintro ⟨A108, c109, l110, k111⟩ w114 ⟨H115, hf116⟩
  show Wp _ _ _ [(3, .slice A108 l110.length c109), (42, .int .i64 ((k111 : Nat) : Int)), (41, .int .i64 ((p0.xbuffers.ls.length : Nat) : Int)), (40, .slice A0x2 p0.xbuffers.ls.length c0x2), (2, .slice none 0 0)] _ _
  replace hf116 : k111 ≤ p0.xbuffers.ls.length ∧ ((l110.length : Nat) : Int) ≤ 8388779 + 2199055761418 * ((k111 : Nat) : Int) ∧ node_stem_write_L2 p0.xbuffers.ls l76 = node_stem_write_L2 (List.drop k111 p0.xbuffers.ls) l110 := hf116
  obtain ⟨hi118, hi119, hq117⟩ := hf116
  refine Wp.seq (Wp.region (Kn (v := .bool (decide (((k111 : Nat) : Int) < ((p0.xbuffers.ls.length : Nat) : Int)))) rfl rfl rfl (fun _ => by kernel_rfl) (WL.nil (Fin.then (Wp.seq ?_)))))
  by_cases h120 : ((k111 : Nat) : Int) < ((p0.xbuffers.ls.length : Nat) : Int)
  obtain ⟨x121, hx122⟩ := rds_at (ls := d0x2) (i := k111) svLen (by decide) (H115.ro hx0x2) (by first | omega | (simp; done) | (simp; omega))
  have hX123 := abs_at hd0x2 hx122
  have hb124 := (hm0x2 _ (List.mem_of_getElem? hx122)).2
  have hz125 : x121.ls.length ≤ 1048576 ∧ ∀ y ∈ x121.ls, y.xSeq ≤ 18446744073709551615 ∧ y.xOp.xKey.length ≤ 1048576 ∧ y.xOp.xValue.length ≤ 1048576 ∧ y.xOp.xLo.length ≤ 1048576 ∧ y.xOp.xHi.length ≤ 1048576 := hh0.2.2.2 _ (List.mem_of_getElem? hX123)
  have hz125a := hz125.1
  have hd126 := drop_at hX123
  refine Wp.cond1 rfl (decide_eq_true h120) (Wp.skip (Fin.then (Wp.seq (Wp.block (Wp.seq (Wp.region (WL.val (v := .pointer (some ⟨ab A0x2, ao A0x2 + k111 * 1, none⟩)) rfl (Yl.indexAddr (El25) rfl rfl ((H115.ro hx0x2).addr (i := k111) (by omega)) (by omega)) (WL.val (v := .slice x121.A x121.ls.length x121.c) rfl (Yl.load rfl (Lds.one Tryz.isAgg46 (((H115.ro hx0x2).elem svLen hx122 (by decide)).at_ (k := 0) rfl))) (As rfl rfl (WL.nil (Fin.then (Wp.seq (Wp.region (Mv rfl rfl (Mv rfl rfl (Kn (v := .int .i64 ((x121.ls.length : Nat) : Int)) rfl rfl rfl (fun _ => by kernel_rfl) ?_))))))))))))))))
  have H127 := H115.pick [1, 0] (by decide) rfl
  obtain ⟨r133, hr134⟩ : ∃ q, node_putNum l110 ((x121.ls.length : Nat) : Int) = q := ⟨_, rfl⟩
  obtain ⟨D128, HP129, ro130, bk131, rr132⟩ := Own.enter1 H127
  refine WL.do rfl (Do.call Tryz.call64 rfl (node_putNum_ok _ _ A108 l110.length c109 l110 ((x121.ls.length : Nat) : Int) r133 HP129 rfl (by omega) (by first | omega | (simp only [List.length_cons, List.length_nil, List.length_append]; omega)) hr134) ?_)
  rintro _ w135 ⟨A138, c139, rfl, HQ136, hk140⟩
  have H137 := bk131 _ _ HQ136
  have hb141 := H137.rowC (i := 0) rfl
  replace hk140 : r133.length ≤ l110.length + 10 := hk140
  refine As rfl rfl (WL.nil (Fin.then (Wp.seq (Wp.region (Mv rfl rfl (Kn (v := .int .i64 ((x121.ls.length : Nat) : Int)) rfl rfl rfl (fun _ => by kernel_rfl) (Mv rfl rfl (WL.nil (Fin.then (Wp.block ?_))))))))))
  have H147 := H137.pick [1, 0] (by decide) rfl
  refine Wp.loop (ι := (Option Addr) × Nat × (List UInt8) × Nat) (fun i => [(3, .slice i.1 i.2.2.1.length i.2.1), (52, .int .i64 ((i.2.2.2 : Nat) : Int)), (51, .int .i64 ((x121.ls.length : Nat) : Int)), (50, .slice x121.A x121.ls.length x121.c), (49, .slice A138 r133.length c139), (48, .int .i64 ((x121.ls.length : Nat) : Int)), (47, .slice x121.A x121.ls.length x121.c), (46, .slice A108 l110.length c109), (9, .slice x121.A x121.ls.length x121.c), (45, .slice x121.A x121.ls.length x121.c), (44, .pointer (some ⟨ab A0x2, ao A0x2 + k111 * 1, none⟩)), (43, .bool (decide (((k111 : Nat) : Int) < ((p0.xbuffers.ls.length : Nat) : Int)))), (42, .int .i64 ((k111 : Nat) : Int)), (41, .int .i64 ((p0.xbuffers.ls.length : Nat) : Int)), (40, .slice A0x2 p0.xbuffers.ls.length c0x2), (2, .slice none 0 0)]) (fun (i : (Option Addr) × Nat × (List UInt8) × Nat) w' => Own w D w' [blk g21 [.slice A0x0 p0.xkids.ls.length c0x0, .slice A0x1 p0.xpivots.ls.length c0x1, .slice A0x2 p0.xbuffers.ls.length c0x2] 76, row i.1 i.2.2.1.length i.2.1 (List.flatMap eB i.2.2.1) 5 1] ∧ (i.2.2.2 ≤ x121.ls.length ∧ ((i.2.2.1.length : Nat) : Int) ≤ ((r133.length : Nat) : Int) + 2097183 * ((i.2.2.2 : Nat) : Int) ∧ node_stem_write_L3 x121.ls r133 = node_stem_write_L3 (List.drop i.2.2.2 x121.ls) i.2.2.1)) (fun i => x121.ls.length - i.2.2.2) (A138, c139, r133, 0) ⟨rfl, rfl, rfl, rfl, rfl, rfl, rfl, rfl, rfl, rfl, rfl, rfl, rfl, rfl, rfl, rfl, trivial⟩ ⟨H147, (show 0 ≤ x121.ls.length ∧ ((r133.length : Nat) : Int) ≤ ((r133.length : Nat) : Int) + 2097183 * ((0 : Nat) : Int) ∧ node_stem_write_L3 x121.ls r133 = node_stem_write_L3 (List.drop 0 x121.ls) r133 from ⟨by omega, by omega, rfl⟩)⟩ ?_
  rintro ⟨A142, c143, l144, k145⟩ w148 ⟨H149, hf150⟩
  show Wp _ _ _ [(3, .slice A142 l144.length c143), (52, .int .i64 ((k145 : Nat) : Int)), (51, .int .i64 ((x121.ls.length : Nat) : Int)), (50, .slice x121.A x121.ls.length x121.c), (49, .slice A138 r133.length c139), (48, .int .i64 ((x121.ls.length : Nat) : Int)), (47, .slice x121.A x121.ls.length x121.c), (46, .slice A108 l110.length c109), (9, .slice x121.A x121.ls.length x121.c), (45, .slice x121.A x121.ls.length x121.c), (44, .pointer (some ⟨ab A0x2, ao A0x2 + k111 * 1, none⟩)), (43, .bool (decide (((k111 : Nat) : Int) < ((p0.xbuffers.ls.length : Nat) : Int)))), (42, .int .i64 ((k111 : Nat) : Int)), (41, .int .i64 ((p0.xbuffers.ls.length : Nat) : Int)), (40, .slice A0x2 p0.xbuffers.ls.length c0x2), (2, .slice none 0 0)] _ _
  replace hf150 : k145 ≤ x121.ls.length ∧ ((l144.length : Nat) : Int) ≤ ((r133.length : Nat) : Int) + 2097183 * ((k145 : Nat) : Int) ∧ node_stem_write_L3 x121.ls r133 = node_stem_write_L3 (List.drop k145 x121.ls) l144 := hf150
  obtain ⟨hi152, hi153, hq151⟩ := hf150
  refine Wp.seq (Wp.region (Kn (v := .bool (decide (((k145 : Nat) : Int) < ((x121.ls.length : Nat) : Int)))) rfl rfl rfl (fun _ => by kernel_rfl) (WL.nil (Fin.then (Wp.seq ?_)))))
  by_cases h154 : ((k145 : Nat) : Int) < ((x121.ls.length : Nat) : Int)
  obtain ⟨x155, hx156⟩ := rds_at (ls := x121.ls) (i := k145) EntryD.len (by decide) (H149.ro (hm0x2 _ (List.mem_of_getElem? hx122)).1) (by first | omega | (simp; done) | (simp; omega))
  have hz157 : x155.xSeq ≤ 18446744073709551615 ∧ x155.xOp.xKey.length ≤ 1048576 ∧ x155.xOp.xValue.length ≤ 1048576 ∧ x155.xOp.xLo.length ≤ 1048576 ∧ x155.xOp.xHi.length ≤ 1048576 := hz125.2 _ (List.mem_of_getElem? hx156)
  have hd158 := drop_at hx156
  refine Wp.cond1 rfl (decide_eq_true h154) (Wp.skip (Fin.then (Wp.seq (Wp.block (Wp.seq (Wp.region (WL.val (v := .pointer (some ⟨ab x121.A, ao x121.A + k145 * 7, none⟩)) rfl (Yl.indexAddr (El46) rfl rfl ((H149.ro (hm0x2 _ (List.mem_of_getElem? hx122)).1).addr (i := k145) (by omega)) (by omega)) (WL.val (v := .agg (EntryD.cells x155).toArray) rfl (Yl.load rfl (Lds.agg (cs := (EntryD.cells x155)) Tryz.isAgg61 Tryz.sizeOf61 ((H149.ro (hm0x2 _ (List.mem_of_getElem? hx122)).1).elem EntryD.len hx156 (by decide)))) ?_))))))))
  refine WL.do rfl (Do.newP (cs := [.int .u64 0, .int .i64 0, .string ⟨List.toArray ([])⟩, .string ⟨List.toArray ([])⟩, .string ⟨List.toArray ([])⟩, .string ⟨List.toArray ([])⟩, .int .i64 0]) (t := 61) H149 rfl rfl (fun _ => by kernel_rfl) ?_)
  intro g159 w160 H161
  refine WL.do0 (Do.store (vs := (EntryD.cells x155)) (o := 0) H161 rfl rfl Tryz.sizeOf61 rfl rfl rfl rfl ?_)
  intro w162 H163
  refine WL.nil (Fin.then (Wp.seq (Wp.region (Mv rfl rfl (Kn (v := .pointer (some ⟨g159, 0, none⟩)) rfl rfl rfl (fun _ => by kernel_rfl) (WL.val (v := .int .u64 ((x155.xSeq : Nat) : Int)) rfl (Yl.load rfl (Lds.one Tryz.isAgg57 (Cls.of (H163.cls (i := 0) rfl) rfl))) ?_))))))
  obtain ⟨r169, hr170⟩ : ∃ q, octet_Num x155.xSeq = q := ⟨_, rfl⟩
  obtain ⟨D164, HP165, ro166, bk167, rr168⟩ := Own.enter0 H163
  refine WL.do rfl (Do.call Tryz.call66 rfl (octet_Num_ok _ _ x155.xSeq r169 HP165 (by omega) hr170) ?_)
  rintro _ w171 ⟨A174, c175, rfl, HQ172, hk176, hk177⟩
  have H173 := bk167 _ _ HQ172
  have hb178 := H173.rowC (i := 0) rfl
  replace hk176 : 1 ≤ r169.length ∧ r169.length ≤ 10 := hk176
  replace hk177 : x155.xSeq ≥ 128 ∨ r169.length = 1 := hk177
  have H179 := H173.pick [3, 0, 1, 2] (by decide) rfl
  refine WL.do rfl (Do.appendW (k := l144.length) (m := r169.length) (El29) H179 rfl rfl (src_of Tryz.underlying29 (H179.rds (i := 1) rfl) (flat_one eB_one r169)) rfl (by omega) (s := List.length (l144 ++ r169)) (by first | omega | (simp only [List.length_append, List.length_cons, List.length_nil] <;> omega)) (List.flatMap_append).symm ?_)
  intro A180 c181 w182 H183
  have hl184 : List.length (l144 ++ r169) = l144.length + r169.length := by simp only [List.length_append, List.length_cons, List.length_nil]
  refine As rfl rfl (WL.nil (Fin.then (Wp.region (Mv rfl rfl (Kn (v := .pointer (some ⟨g159, 1, none⟩)) rfl rfl rfl (fun _ => by kernel_rfl) (WL.val (v := .agg (OpD.cells x155.xOp).toArray) rfl (Yl.load rfl (Lds.agg (cs := (OpD.cells x155.xOp)) Tryz.isAgg59 Tryz.sizeOf59 ((H183.cls (i := 2) rfl).lit (k := 1) (m := 6) rfl))) ?_))))))
  obtain ⟨r190, hr191⟩ : ∃ q, node_putOp (l144 ++ r169) x155.xOp = q := ⟨_, rfl⟩
  obtain ⟨D185, HP186, ro187, bk188, rr189⟩ := Own.enter1 H183
  refine WL.do rfl (Do.call Tryz.call67 rfl (node_putOp_ok _ _ A180 (List.length (l144 ++ r169)) c181 (l144 ++ r169) x155.xOp r190 HP186 rfl (by first | omega | (simp only [List.length_append, List.length_cons, List.length_nil, List.length_take, List.length_drop, List.length_set]; omega)) (by first | omega | (simp only [List.length_cons, List.length_nil, List.length_append]; omega)) hr191) ?_)
  rintro _ w192 ⟨A195, c196, rfl, HQ193, hk197⟩
  have H194 := bk188 _ _ HQ193
  have hb198 := H194.rowC (i := 0) rfl
  replace hk197 : r190.length ≤ List.length (l144 ++ r169) + 2097173 := hk197
  refine As rfl rfl (WL.nil (Fin.blockN (Fin.then (Wp.region (WL.val (v := .int .i64 ((k145 + 1 : Nat) : Int)) rfl (Yl.int (e := IntKind.i64.wrap (((k145 : Nat) : Int) + 1)) (Yl.kern rfl rfl (fun _ => by kernel_rfl)) (by rw [IntWalk.i64_in _ (by omega)]; omega)) (Mv rfl rfl (WL.nil ?_)))))))
  have H199 := H194.pick [3, 0] (by decide) rfl
  exact Fin.round (A195, c196, r190, k145 + 1) ⟨rfl, rfl, rfl, rfl, rfl, rfl, rfl, rfl, rfl, rfl, rfl, rfl, rfl, rfl, rfl, rfl, trivial⟩ ⟨H199, (show (k145 + 1) ≤ x121.ls.length ∧ ((r190.length : Nat) : Int) ≤ ((r133.length : Nat) : Int) + 2097183 * (((k145 + 1) : Nat) : Int) ∧ node_stem_write_L3 x121.ls r133 = node_stem_write_L3 (List.drop (k145 + 1) x121.ls) r190 from ⟨by omega, by omega, Eq.trans (hq151) (Eq.trans (congrArg (fun q => node_stem_write_L3 q l144) hd158) (Eq.trans (bnd_of hr170) (bnd_of hr191)))⟩)⟩ (by show x121.ls.length - (k145 + 1) < x121.ls.length - k145; omega)
  refine Wp.cond0 rfl (decide_eq_false h154) (Wp.exit (Fin.thenX ?_))
  have hL200 : node_stem_write_L3 x121.ls r133 = l144 := Eq.trans (hq151) (Eq.trans (congrArg (fun q => node_stem_write_L3 q l144) (drop_end (ls := x121.ls) (i := k145) (by omega))) rfl)
  refine Fin.thenX (Fin.blockX (Fin.blockN (Fin.then (Wp.region (WL.val (v := .int .i64 ((k111 + 1 : Nat) : Int)) rfl (Yl.int (e := IntKind.i64.wrap (((k111 : Nat) : Int) + 1)) (Yl.kern rfl rfl (fun _ => by kernel_rfl)) (by rw [IntWalk.i64_in _ (by omega)]; omega)) (Mv rfl rfl (WL.nil ?_)))))))
  have H201 := H149.pick [0, 1] (by decide) rfl
  exact Fin.round (A142, c143, l144, k111 + 1) ⟨rfl, rfl, rfl, rfl, rfl, trivial⟩ ⟨H201, (show (k111 + 1) ≤ p0.xbuffers.ls.length ∧ ((l144.length : Nat) : Int) ≤ 8388779 + 2199055761418 * (((k111 + 1) : Nat) : Int) ∧ node_stem_write_L2 p0.xbuffers.ls l76 = node_stem_write_L2 (List.drop (k111 + 1) p0.xbuffers.ls) l144 from ⟨by omega, by omega, Eq.trans (hq117) (Eq.trans (congrArg (fun q => node_stem_write_L2 q l110) hd126) (Eq.trans (bnd_of hr134) (bnd_of hL200)))⟩)⟩ (by show p0.xbuffers.ls.length - (k111 + 1) < p0.xbuffers.ls.length - k111; omega)
  refine Wp.cond0 rfl (decide_eq_false h120) (Wp.exit (Fin.thenX ?_))
  have hL202 : node_stem_write_L2 p0.xbuffers.ls l76 = l110 := Eq.trans (hq117) (Eq.trans (congrArg (fun q => node_stem_write_L2 q l110) (drop_end (ls := p0.xbuffers.ls) (i := k111) (by omega))) rfl)
  refine Fin.thenX (Fin.blockX (Fin.then (Wp.seq (Wp.region (Mv rfl rfl (As rfl rfl (WL.nil (Fin.then (Wp.ret (Fin.res (res1 rfl rfl) ?_))))))))))
  have H203 := H115.pick [1] (by decide) rfl
  have e : node_stem_write p0 = l110 := Eq.trans (bnd_of hr33) (Eq.trans (bnd_of hL73) (Eq.trans (bnd_of hL107) (bnd_of hL202)))
  obtain rfl := e.symm.trans hr
  exact ⟨A108, c109, rfl, H203, (by first | omega | (simp only [List.length_cons, List.length_nil, List.length_append]; omega))⟩

def node_Encode (p0 : NodeT) : (List UInt8) × Int :=
  if p0.xLeaf = true then if IntKind.i64.wrap ((IntKind.i64.wrap (((p0.xKids.ls.length : Nat) : Int) + ((p0.xPivots.ls.length : Nat) : Int))) + ((p0.xBuffers.ls.length : Nat) : Int)) = 0 then bnd (op_CheckMap p0.xPairs.ls) fun yr39 => if yr39 = 0 then bnd (node_leaf_write (leafT.mk (Ll.mk p0.xPairs.ls))) fun yr55 => if ((yr55.length : Nat) : Int) > 480 then ([], 2) else (yr55, 0) else ([], yr39) else ([], 130) else if ((p0.xPairs.ls.length : Nat) : Int) = 0 then bnd (node_stem_check (stemT.mk (Ll.mk p0.xKids.ls) (Ll.mk p0.xPivots.ls) (Ll.mk p0.xBuffers.ls))) fun yr85 => if yr85 = 0 then bnd (node_stem_write (stemT.mk (Ll.mk p0.xKids.ls) (Ll.mk p0.xPivots.ls) (Ll.mk p0.xBuffers.ls))) fun yr102 => if ((yr102.length : Nat) : Int) > 480 then ([], 2) else (yr102, 0) else ([], yr85) else ([], 130)

set_option maxRecDepth 100000 in
theorem node_Encode_ok (w : World) (D : Nat → Prop) (p0 : NodeT) (A0x0 : Option Addr) (n0x0 c0x0 : Nat) (A0x1 : Option Addr) (n0x1 c0x1 : Nat) (A0x2 : Option Addr) (n0x2 c0x2 : Nat) (A0x3 : Option Addr) (n0x3 c0x3 : Nat) (d0x3 : List Row46D) (r0 : List UInt8) (r1 : Int) (H : Own w D w []) (hn0x0 : n0x0 = p0.xPairs.ls.length) (hx0x0 : Ro w D fun w' => Rds w' 2 A0x0 p0.xPairs.ls.length (List.flatMap PairD.cells p0.xPairs.ls)) (hb0x0 : p0.xPairs.ls.length ≤ c0x0 ∧ p0.xPairs.ls.length ≤ 9223372036854775807) (hn0x1 : n0x1 = p0.xKids.ls.length) (hx0x1 : Ro w D fun w' => Rds w' 1 A0x1 p0.xKids.ls.length (List.flatMap (eI .i64) p0.xKids.ls)) (hb0x1 : p0.xKids.ls.length ≤ c0x1 ∧ p0.xKids.ls.length ≤ 9223372036854775807) (hn0x2 : n0x2 = p0.xPivots.ls.length) (hx0x2 : Ro w D fun w' => Rds w' 1 A0x2 p0.xPivots.ls.length (List.flatMap eS p0.xPivots.ls)) (hb0x2 : p0.xPivots.ls.length ≤ c0x2 ∧ p0.xPivots.ls.length ≤ 9223372036854775807) (hd0x3 : List.map Row46D.abs d0x3 = p0.xBuffers.ls) (hn0x3 : n0x3 = p0.xBuffers.ls.length) (hx0x3 : Ro w D fun w' => Rds w' 1 A0x3 p0.xBuffers.ls.length (List.flatMap (Sv.enc (β := EntryD)) d0x3)) (hb0x3 : p0.xBuffers.ls.length ≤ c0x3 ∧ p0.xBuffers.ls.length ≤ 9223372036854775807) (hm0x3 : ∀ x ∈ d0x3, Ro w D (fun w' => Rds w' 7 x.A x.ls.length (List.flatMap EntryD.cells x.ls)) ∧ x.ls.length ≤ 9223372036854775807) (hh0 : ((p0.xPairs.ls.length ≤ 1048576 ∧ ∀ x ∈ p0.xPairs.ls, x.xKey.length ≤ 1048576 ∧ x.xValue.length ≤ 1048576) ∧ (∀ x ∈ p0.xPivots.ls, x.length ≤ 1048576) ∧ ∀ b ∈ p0.xBuffers.ls, b.ls.length ≤ 1048576 ∧ ∀ x ∈ b.ls, x.xSeq ≤ 18446744073709551615 ∧ x.xOp.xKey.length ≤ 1048576 ∧ x.xOp.xValue.length ≤ 1048576 ∧ x.xOp.xLo.length ≤ 1048576 ∧ x.xOp.xHi.length ≤ 1048576)) (hr : node_Encode p0 = (r0, r1)) :
    Calls Tryz.prog 6 #[.agg #[.bool p0.xLeaf, .slice A0x0 n0x0 c0x0, .slice A0x1 n0x1 c0x1, .slice A0x2 n0x2 c0x2, .slice A0x3 n0x3 c0x3]] w (Ret fun v w' => ∃ (B0 : Option Addr) (b0 : Nat), v = .tuple #[.slice B0 r0.length b0, .int .i64 r1] ∧ Own w D w' [row B0 r0.length b0 (List.flatMap eB r0) 5 1] ∧ (r0.length ≤ 480)) := by
  subst hn0x0 hn0x1 hn0x2 hn0x3
  have hdl0x3 := abs_len hd0x3
  refine Calls.body (args := [.agg #[.bool p0.xLeaf, .slice A0x0 p0.xPairs.ls.length c0x0, .slice A0x1 p0.xKids.ls.length c0x1, .slice A0x2 p0.xPivots.ls.length c0x2, .slice A0x3 p0.xBuffers.ls.length c0x3]]) Tryz.func6 rfl rfl rfl ?_
  show Wp _ _ _ [(0, .agg #[.bool p0.xLeaf, .slice A0x0 p0.xPairs.ls.length c0x0, .slice A0x1 p0.xKids.ls.length c0x1, .slice A0x2 p0.xPivots.ls.length c0x2, .slice A0x3 p0.xBuffers.ls.length c0x3])] _ _
  refine Wp.seq (Wp.region ?_)
  refine WL.do rfl (Do.newP (cs := [.bool p0.xLeaf, .slice A0x0 p0.xPairs.ls.length c0x0, .slice A0x1 p0.xKids.ls.length c0x1, .slice A0x2 p0.xPivots.ls.length c0x2, .slice A0x3 p0.xBuffers.ls.length c0x3]) (t := 27) H rfl rfl (fun _ => by kernel_rfl) ?_)
  intro g21 w22 H23
  refine As rfl rfl (As rfl rfl (WL.nil (Fin.then (Wp.seq (Wp.region (WL.val (v := .agg #[.bool p0.xLeaf, .slice A0x0 p0.xPairs.ls.length c0x0, .slice A0x1 p0.xKids.ls.length c0x1, .slice A0x2 p0.xPivots.ls.length c0x2, .slice A0x3 p0.xBuffers.ls.length c0x3]) rfl (Yl.load rfl (Lds.agg (cs := [.bool p0.xLeaf, .slice A0x0 p0.xPairs.ls.length c0x0, .slice A0x1 p0.xKids.ls.length c0x1, .slice A0x2 p0.xPivots.ls.length c0x2, .slice A0x3 p0.xBuffers.ls.length c0x3]) Tryz.isAgg27 Tryz.sizeOf27 ((H23.cls (i := 0) rfl).lit (k := 0) (m := 5) rfl))) ?_))))))
  refine WL.do rfl (Do.call Tryz.call19 rfl ?_ (fun _ _ k => k))
  refine Calls.body (args := [.agg #[.bool p0.xLeaf, .slice A0x0 p0.xPairs.ls.length c0x0, .slice A0x1 p0.xKids.ls.length c0x1, .slice A0x2 p0.xPivots.ls.length c0x2, .slice A0x3 p0.xBuffers.ls.length c0x3]]) Tryz.func19 rfl rfl rfl ?_
  show Wp _ _ _ [(0, .agg #[.bool p0.xLeaf, .slice A0x0 p0.xPairs.ls.length c0x0, .slice A0x1 p0.xKids.ls.length c0x1, .slice A0x2 p0.xPivots.ls.length c0x2, .slice A0x3 p0.xBuffers.ls.length c0x3])] _ _
  refine Wp.seq (Wp.region ?_)
  refine WL.do rfl (Do.newP (cs := [.bool p0.xLeaf, .slice A0x0 p0.xPairs.ls.length c0x0, .slice A0x1 p0.xKids.ls.length c0x1, .slice A0x2 p0.xPivots.ls.length c0x2, .slice A0x3 p0.xBuffers.ls.length c0x3]) (t := 27) H23 rfl rfl (fun _ => by kernel_rfl) ?_)
  intro g24 w25 H26
  refine As rfl rfl (WL.nil (Fin.then (Wp.seq (Wp.block (Wp.seq (Wp.region (Kn (v := .pointer (some ⟨g24, 0, none⟩)) rfl rfl rfl (fun _ => by kernel_rfl) (WL.val (v := .bool p0.xLeaf) rfl (Yl.load rfl (Lds.one Tryz.isAgg4 (Cls.of (H26.cls (i := 0) rfl) rfl))) (Mv rfl rfl ?_)))))))))
  rcases Bool.eq_false_or_eq_true (p0.xLeaf) with h27 | h27
  refine WL.valG (v := .pointer (some ⟨g24, 2, none⟩)) rfl rfl h27 rfl (Yl.kern rfl rfl (fun _ => by kernel_rfl)) (WL.valG (v := .slice A0x1 p0.xKids.ls.length c0x1) rfl rfl h27 rfl (Yl.load rfl (Lds.one Tryz.isAgg23 (Cls.of (H26.cls (i := 0) rfl) rfl))) (WL.valG (v := .int .i64 ((p0.xKids.ls.length : Nat) : Int)) rfl rfl h27 rfl (Yl.kern rfl rfl (fun _ => by kernel_rfl)) (WL.valG (v := .pointer (some ⟨g24, 3, none⟩)) rfl rfl h27 rfl (Yl.kern rfl rfl (fun _ => by kernel_rfl)) (WL.valG (v := .slice A0x2 p0.xPivots.ls.length c0x2) rfl rfl h27 rfl (Yl.load rfl (Lds.one Tryz.isAgg24 (Cls.of (H26.cls (i := 0) rfl) rfl))) (WL.valG (v := .int .i64 ((p0.xPivots.ls.length : Nat) : Int)) rfl rfl h27 rfl (Yl.kern rfl rfl (fun _ => by kernel_rfl)) (WL.valG (v := .int .i64 (IntKind.i64.wrap (((p0.xKids.ls.length : Nat) : Int) + ((p0.xPivots.ls.length : Nat) : Int)))) rfl rfl h27 rfl (Yl.kern rfl rfl (fun _ => by kernel_rfl)) (WL.valG (v := .pointer (some ⟨g24, 4, none⟩)) rfl rfl h27 rfl (Yl.kern rfl rfl (fun _ => by kernel_rfl)) (WL.valG (v := .slice A0x3 p0.xBuffers.ls.length c0x3) rfl rfl h27 rfl (Yl.load rfl (Lds.one Tryz.isAgg25 (Cls.of (H26.cls (i := 0) rfl) rfl))) (WL.valG (v := .int .i64 ((p0.xBuffers.ls.length : Nat) : Int)) rfl rfl h27 rfl (Yl.kern rfl rfl (fun _ => by kernel_rfl)) (WL.valG (v := .int .i64 (IntKind.i64.wrap ((IntKind.i64.wrap (((p0.xKids.ls.length : Nat) : Int) + ((p0.xPivots.ls.length : Nat) : Int))) + ((p0.xBuffers.ls.length : Nat) : Int)))) rfl rfl h27 rfl (Yl.kern rfl rfl (fun _ => by kernel_rfl)) (WL.valG (v := .bool (decide (IntKind.i64.wrap ((IntKind.i64.wrap (((p0.xKids.ls.length : Nat) : Int) + ((p0.xPivots.ls.length : Nat) : Int))) + ((p0.xBuffers.ls.length : Nat) : Int)) = 0))) rfl rfl h27 rfl (Yl.kern rfl rfl (fun _ => by kernel_rfl)) (WL.val (v := .bool (decide (IntKind.i64.wrap ((IntKind.i64.wrap (((p0.xKids.ls.length : Nat) : Int) + ((p0.xPivots.ls.length : Nat) : Int))) + ((p0.xBuffers.ls.length : Nat) : Int)) = 0))) rfl (Yl.pickT rfl h27 rfl) (As rfl rfl (WL.nil (Fin.then ?_)))))))))))))))
  by_cases h28 : IntKind.i64.wrap ((IntKind.i64.wrap (((p0.xKids.ls.length : Nat) : Int) + ((p0.xPivots.ls.length : Nat) : Int))) + ((p0.xBuffers.ls.length : Nat) : Int)) = 0
  refine Wp.cond1 rfl (decide_eq_true h28) (Wp.seq (Wp.region (Kn (v := .pointer (some ⟨g24, 1, none⟩)) rfl rfl rfl (fun _ => by kernel_rfl) (WL.val (v := .slice A0x0 p0.xPairs.ls.length c0x0) rfl (Yl.load rfl (Lds.one Tryz.isAgg22 (Cls.of (H26.cls (i := 0) rfl) rfl))) (Kn (v := .agg #[.slice A0x0 p0.xPairs.ls.length c0x0]) rfl rfl rfl (fun _ => by kernel_rfl) (Kn (v := .iface 74 (.agg #[.slice A0x0 p0.xPairs.ls.length c0x0])) rfl rfl rfl (fun _ => by kernel_rfl) (As rfl rfl (WL.nil (Fin.then (Wp.ret (Fin.blockR (Fin.thenR (Fin.res (res1 rfl rfl) (As rfl rfl (WL.nil (Fin.then (Wp.seq (Wp.seq (Wp.region (Mv rfl rfl ?_))))))))))))))))))))
  refine WL.do rfl (Do.call Tryz.call20 rfl ?_ (fun _ _ k => k))
  refine Calls.body (args := [.iface 74 (.agg #[.slice A0x0 p0.xPairs.ls.length c0x0])]) Tryz.func20 rfl rfl rfl ?_
  show Wp _ _ _ [(0, .iface 74 (.agg #[.slice A0x0 p0.xPairs.ls.length c0x0]))] _ _
  refine Wp.seq (Wp.region (As rfl rfl (WL.nil (Fin.then (Wp.seq (Wp.seq (Wp.region (Mv rfl rfl (WL.nil (Fin.then (Wp.block (Wp.seq (Wp.region (Kn (v := .tuple #[.agg #[.slice A0x0 p0.xPairs.ls.length c0x0], .bool true]) rfl rfl rfl (fun _ => by kernel_rfl) (Kn (v := .bool true) rfl rfl rfl (fun _ => by kernel_rfl) (Kn (v := .agg #[.slice A0x0 p0.xPairs.ls.length c0x0]) rfl rfl rfl (fun _ => by kernel_rfl) (WL.nil (Fin.then (Wp.cond1 rfl rfl (Wp.seq (Wp.region ?_)))))))))))))))))))))
  refine WL.do rfl (Do.newP (cs := [.slice none 0 0]) (t := 74) H26 rfl rfl (fun _ => by kernel_rfl) ?_)
  intro g29 w30 H31
  refine WL.do0 (Do.store (vs := [.slice A0x0 p0.xPairs.ls.length c0x0]) (o := 0) H31 rfl rfl Tryz.sizeOf74 rfl rfl rfl rfl ?_)
  intro w32 H33
  refine WL.nil (Fin.then (Wp.seq (Wp.region (Kn (v := .pointer (some ⟨g29, 0, none⟩)) rfl rfl rfl (fun _ => by kernel_rfl) (WL.val (v := .slice A0x0 p0.xPairs.ls.length c0x0) rfl (Yl.load rfl (Lds.one Tryz.isAgg22 (Cls.of (H33.cls (i := 0) rfl) rfl))) ?_)))))
  obtain ⟨r39, hr40⟩ : ∃ q, op_CheckMap p0.xPairs.ls = q := ⟨_, rfl⟩
  obtain ⟨D34, HP35, ro36, bk37, rr38⟩ := Own.enter0 H33
  refine WL.do rfl (Do.call Tryz.call35 rfl (op_CheckMap_ok _ _ A0x0 p0.xPairs.ls.length c0x0 p0.xPairs.ls r39 HP35 (ro36 _ hx0x0) rfl (by omega) hr40) ?_)
  rintro _ w41 ⟨rfl, HQ42⟩
  have H43 := bk37 _ _ HQ42
  refine As rfl rfl (WL.nil (Fin.then (Wp.ret (Fin.blockR (Fin.thenR (Fin.res (res1 rfl rfl) (As rfl rfl (WL.nil (Fin.then (Wp.seq (Wp.region (Mv rfl rfl (WL.val (v := .bool (decide (¬ (r39 = 0)))) rfl (Yl.bool (e := !(decide (r39 = 0))) (Yl.kern rfl rfl (fun _ => by kernel_rfl)) decide_not.symm) (WL.nil (Fin.then ?_)))))))))))))))
  by_cases h44 : r39 = 0
  refine Wp.cond0 rfl (decide_eq_false (not_not_intro h44)) (Wp.skip (Fin.then (Wp.seq (Wp.region (Mv rfl rfl ?_)))))
  refine WL.do rfl (Do.call Tryz.call21 rfl ?_ (fun _ _ k => k))
  refine Calls.body (args := [.iface 74 (.agg #[.slice A0x0 p0.xPairs.ls.length c0x0])]) Tryz.func21 rfl rfl rfl ?_
  show Wp _ _ _ [(0, .iface 74 (.agg #[.slice A0x0 p0.xPairs.ls.length c0x0]))] _ _
  refine Wp.seq (Wp.region (As rfl rfl (WL.nil (Fin.then (Wp.seq (Wp.seq (Wp.region (Mv rfl rfl (WL.nil (Fin.then (Wp.block (Wp.seq (Wp.region (Kn (v := .tuple #[.agg #[.slice A0x0 p0.xPairs.ls.length c0x0], .bool true]) rfl rfl rfl (fun _ => by kernel_rfl) (Kn (v := .bool true) rfl rfl rfl (fun _ => by kernel_rfl) (Kn (v := .agg #[.slice A0x0 p0.xPairs.ls.length c0x0]) rfl rfl rfl (fun _ => by kernel_rfl) (WL.nil (Fin.then (Wp.cond1 rfl rfl (Wp.seq (Wp.region ?_)))))))))))))))))))))
  refine WL.do rfl (Do.newP (cs := [.slice none 0 0]) (t := 74) H43 rfl rfl (fun _ => by kernel_rfl) ?_)
  intro g45 w46 H47
  refine WL.do0 (Do.store (vs := [.slice A0x0 p0.xPairs.ls.length c0x0]) (o := 0) H47 rfl rfl Tryz.sizeOf74 rfl rfl rfl rfl ?_)
  intro w48 H49
  refine WL.nil (Fin.then (Wp.seq (Wp.region (WL.val (v := .agg #[.slice A0x0 p0.xPairs.ls.length c0x0]) rfl (Yl.load rfl (Lds.agg (cs := [.slice A0x0 p0.xPairs.ls.length c0x0]) Tryz.isAgg74 Tryz.sizeOf74 ((H49.cls (i := 0) rfl).lit (k := 0) (m := 1) rfl))) ?_))))
  obtain ⟨r55, hr56⟩ : ∃ q, node_leaf_write (leafT.mk (Ll.mk p0.xPairs.ls)) = q := ⟨_, rfl⟩
  obtain ⟨D50, HP51, ro52, bk53, rr54⟩ := Own.enter0 H49
  refine WL.do rfl (Do.call Tryz.call37 rfl (node_leaf_write_ok _ _ (leafT.mk (Ll.mk p0.xPairs.ls)) A0x0 p0.xPairs.ls.length c0x0 r55 HP51 rfl (ro52 _ hx0x0) (by first | exact ⟨Nat.le_of_ble_eq_true rfl, Nat.le_of_ble_eq_true rfl⟩ | omega | exact ⟨Nat.le_refl _, by omega⟩) (by exact hh0.1) hr56) ?_)
  rintro _ w57 ⟨A60, c61, rfl, HQ58, hk62⟩
  have H59 := bk53 _ _ HQ58
  have hb63 := H59.rowC (i := 0) rfl
  replace hk62 : ((r55.length : Nat) : Int) ≤ 11 + 2097172 * ((List.length (leafT.mk (Ll.mk p0.xPairs.ls)).xpairs.ls : Nat) : Int) := hk62
  refine As rfl rfl (WL.nil (Fin.then (Wp.ret (Fin.blockR (Fin.thenR (Fin.res (res1 rfl rfl) (As rfl rfl (WL.nil (Fin.then (Wp.seq (Wp.seq (Wp.region (Mv rfl rfl (Kn (v := .int .i64 ((r55.length : Nat) : Int)) rfl rfl rfl (fun _ => by kernel_rfl) (Kn (v := .bool (decide (((r55.length : Nat) : Int) > 480))) rfl rfl rfl (fun _ => by kernel_rfl) (WL.nil (Fin.then ?_)))))))))))))))))
  by_cases h64 : ((r55.length : Nat) : Int) > 480
  refine Wp.cond1 rfl (decide_eq_true h64) (Wp.seq (Wp.region (As rfl rfl (As rfl rfl (WL.nil (Fin.then (Wp.ret (Fin.thenR (Fin.res (res2 rfl rfl rfl) ?_)))))))))
  have H65 : Own w D w57 [row none 0 0 (List.flatMap eB ([])) 5 1, row A60 r55.length c61 (List.flatMap eB r55) 5 1, blk g45 [.slice A0x0 p0.xPairs.ls.length c0x0] 74, blk g29 [.slice A0x0 p0.xPairs.ls.length c0x0] 74, blk g24 [.bool p0.xLeaf, .slice A0x0 p0.xPairs.ls.length c0x0, .slice A0x1 p0.xKids.ls.length c0x1, .slice A0x2 p0.xPivots.ls.length c0x2, .slice A0x3 p0.xBuffers.ls.length c0x3] 27, blk g21 [.bool p0.xLeaf, .slice A0x0 p0.xPairs.ls.length c0x0, .slice A0x1 p0.xKids.ls.length c0x1, .slice A0x2 p0.xPivots.ls.length c0x2, .slice A0x3 p0.xBuffers.ls.length c0x3] 27] := H59.free (row_nil 5 1)
  have H66 : Own w D w57 [row none 0 0 (List.flatMap eB ([])) 5 1] := H65.pick [0] (by decide) rfl
  have e : node_Encode p0 = ([], 2) := Eq.trans (if_pos h27) (Eq.trans (if_pos h28) (Eq.trans (bnd_of hr40) (Eq.trans (if_pos h44) (Eq.trans (bnd_of hr56) (if_pos h64)))))
  obtain ⟨rfl, rfl⟩ := pj2 (e.symm.trans hr)
  exact ⟨none, 0, rfl, H66, (by first | omega | exact Nat.zero_le _)⟩
  refine Wp.cond0 rfl (decide_eq_false h64) (Wp.skip (Fin.then (Wp.seq (Wp.region (Mv rfl rfl (As rfl rfl (As rfl rfl (WL.nil (Fin.then (Wp.ret (Fin.res (res2 rfl rfl rfl) ?_)))))))))))
  have H67 := H59.pick [0] (by decide) rfl
  have e : node_Encode p0 = (r55, 0) := Eq.trans (if_pos h27) (Eq.trans (if_pos h28) (Eq.trans (bnd_of hr40) (Eq.trans (if_pos h44) (Eq.trans (bnd_of hr56) (if_neg h64)))))
  obtain ⟨rfl, rfl⟩ := pj2 (e.symm.trans hr)
  exact ⟨A60, c61, rfl, H67, (by first | omega | exact Nat.zero_le _)⟩
  refine Wp.cond1 rfl (decide_eq_true h44) (Wp.seq (Wp.region (Mv rfl rfl (As rfl rfl (As rfl rfl (WL.nil (Fin.then (Wp.ret (Fin.thenR (Fin.res (res2 rfl rfl rfl) ?_))))))))))
  have H68 : Own w D w41 [row none 0 0 (List.flatMap eB ([])) 5 1, blk g29 [.slice A0x0 p0.xPairs.ls.length c0x0] 74, blk g24 [.bool p0.xLeaf, .slice A0x0 p0.xPairs.ls.length c0x0, .slice A0x1 p0.xKids.ls.length c0x1, .slice A0x2 p0.xPivots.ls.length c0x2, .slice A0x3 p0.xBuffers.ls.length c0x3] 27, blk g21 [.bool p0.xLeaf, .slice A0x0 p0.xPairs.ls.length c0x0, .slice A0x1 p0.xKids.ls.length c0x1, .slice A0x2 p0.xPivots.ls.length c0x2, .slice A0x3 p0.xBuffers.ls.length c0x3] 27] := H43.free (row_nil 5 1)
  have H69 : Own w D w41 [row none 0 0 (List.flatMap eB ([])) 5 1] := H68.pick [0] (by decide) rfl
  have e : node_Encode p0 = ([], r39) := Eq.trans (if_pos h27) (Eq.trans (if_pos h28) (Eq.trans (bnd_of hr40) (if_neg h44)))
  obtain ⟨rfl, rfl⟩ := pj2 (e.symm.trans hr)
  exact ⟨none, 0, rfl, H69, (by first | omega | exact Nat.zero_le _)⟩
  refine Wp.cond0 rfl (decide_eq_false h28) (Wp.seq (Wp.region (Kn (v := .pointer (some ⟨g24, 0, none⟩)) rfl rfl rfl (fun _ => by kernel_rfl) (WL.val (v := .bool p0.xLeaf) rfl (Yl.load rfl (Lds.one Tryz.isAgg4 (Cls.of (H26.cls (i := 0) rfl) rfl))) (Kn (v := .bool (!p0.xLeaf)) rfl rfl rfl (fun _ => by kernel_rfl) (Mv rfl rfl (Sk rfl rfl (congrArg not h27) rfl (Sk rfl rfl (congrArg not h27) rfl (Sk rfl rfl (congrArg not h27) rfl (Sk rfl rfl (congrArg not h27) rfl (WL.val (v := .bool false) rfl (Yl.pickF rfl (congrArg not h27) rfl) (As rfl rfl (WL.nil (Fin.then (Wp.cond0 rfl rfl (Wp.skip (Fin.blockN (Fin.then (Wp.seq (Wp.region (As rfl rfl (WL.nil (Fin.then (Wp.ret (Fin.res (res1 rfl rfl) (As rfl rfl (WL.nil (Fin.then (Wp.seq (Wp.seq (Wp.region (Mv rfl rfl ?_))))))))))))))))))))))))))))))))
  refine WL.do rfl (Do.call Tryz.call20 rfl ?_ (fun _ _ k => k))
  refine Calls.body (args := [.nilIface]) Tryz.func20 rfl rfl rfl ?_
  show Wp _ _ _ [(0, .nilIface)] _ _
  refine Wp.seq (Wp.region (As rfl rfl (WL.nil (Fin.then (Wp.seq (Wp.seq (Wp.region (Mv rfl rfl (WL.nil (Fin.then (Wp.block (Wp.seq (Wp.region (Kn (v := .tuple #[.agg #[.slice none 0 0], .bool false]) rfl rfl rfl (fun _ => by kernel_rfl) (Kn (v := .bool false) rfl rfl rfl (fun _ => by kernel_rfl) (Kn (v := .agg #[.slice none 0 0]) rfl rfl rfl (fun _ => by kernel_rfl) (WL.nil (Fin.then (Wp.cond0 rfl rfl (Wp.seq (Wp.region (Kn (v := .tuple #[.agg #[.slice none 0 0, .slice none 0 0, .slice none 0 0], .bool false]) rfl rfl rfl (fun _ => by kernel_rfl) (Kn (v := .bool false) rfl rfl rfl (fun _ => by kernel_rfl) (Kn (v := .agg #[.slice none 0 0, .slice none 0 0, .slice none 0 0]) rfl rfl rfl (fun _ => by kernel_rfl) (WL.nil (Fin.then (Wp.cond0 rfl rfl (Wp.skip (Fin.blockN (Fin.then (Wp.seq (Wp.region (As rfl rfl (WL.nil (Fin.then (Wp.ret (Fin.res (res1 rfl rfl) (As rfl rfl (WL.nil ?_)))))))))))))))))))))))))))))))))))))))
  refine Fin.then (Wp.seq (Wp.region (Mv rfl rfl (Kn (v := .bool true) rfl rfl rfl (fun _ => by kernel_rfl) (WL.nil (Fin.then (Wp.cond1 rfl rfl (Wp.seq (Wp.region (Mv rfl rfl (As rfl rfl (As rfl rfl (WL.nil (Fin.then (Wp.ret (Fin.thenR (Fin.res (res2 rfl rfl rfl) ?_)))))))))))))))))
  have H71 : Own w D w25 [row none 0 0 (List.flatMap eB ([])) 5 1, blk g24 [.bool p0.xLeaf, .slice A0x0 p0.xPairs.ls.length c0x0, .slice A0x1 p0.xKids.ls.length c0x1, .slice A0x2 p0.xPivots.ls.length c0x2, .slice A0x3 p0.xBuffers.ls.length c0x3] 27, blk g21 [.bool p0.xLeaf, .slice A0x0 p0.xPairs.ls.length c0x0, .slice A0x1 p0.xKids.ls.length c0x1, .slice A0x2 p0.xPivots.ls.length c0x2, .slice A0x3 p0.xBuffers.ls.length c0x3] 27] := H26.free (row_nil 5 1)
  have H72 : Own w D w25 [row none 0 0 (List.flatMap eB ([])) 5 1] := H71.pick [0] (by decide) rfl
  have e : node_Encode p0 = ([], 130) := Eq.trans (if_pos h27) (if_neg h28)
  obtain ⟨rfl, rfl⟩ := pj2 (e.symm.trans hr)
  exact ⟨none, 0, rfl, H72, (by first | omega | exact Nat.zero_le _)⟩
  refine Sk rfl rfl h27 rfl (Sk rfl rfl h27 rfl (Sk rfl rfl h27 rfl (Sk rfl rfl h27 rfl (Sk rfl rfl h27 rfl (Sk rfl rfl h27 rfl (Sk rfl rfl h27 rfl (Sk rfl rfl h27 rfl (Sk rfl rfl h27 rfl (Sk rfl rfl h27 rfl (Sk rfl rfl h27 rfl (Sk rfl rfl h27 rfl (WL.val (v := .bool false) rfl (Yl.pickF rfl h27 rfl) (As rfl rfl (WL.nil (Fin.then (Wp.cond0 rfl rfl (Wp.seq (Wp.region (Kn (v := .pointer (some ⟨g24, 0, none⟩)) rfl rfl rfl (fun _ => by kernel_rfl) (WL.val (v := .bool p0.xLeaf) rfl (Yl.load rfl (Lds.one Tryz.isAgg4 (Cls.of (H26.cls (i := 0) rfl) rfl))) (Kn (v := .bool (!p0.xLeaf)) rfl rfl rfl (fun _ => by kernel_rfl) (Mv rfl rfl (WL.valG (v := .pointer (some ⟨g24, 1, none⟩)) rfl rfl (congrArg not h27) rfl (Yl.kern rfl rfl (fun _ => by kernel_rfl)) (WL.valG (v := .slice A0x0 p0.xPairs.ls.length c0x0) rfl rfl (congrArg not h27) rfl (Yl.load rfl (Lds.one Tryz.isAgg22 (Cls.of (H26.cls (i := 0) rfl) rfl))) (WL.valG (v := .int .i64 ((p0.xPairs.ls.length : Nat) : Int)) rfl rfl (congrArg not h27) rfl (Yl.kern rfl rfl (fun _ => by kernel_rfl)) (WL.valG (v := .bool (decide (((p0.xPairs.ls.length : Nat) : Int) = 0))) rfl rfl (congrArg not h27) rfl (Yl.kern rfl rfl (fun _ => by kernel_rfl)) (WL.val (v := .bool (decide (((p0.xPairs.ls.length : Nat) : Int) = 0))) rfl (Yl.pickT rfl (congrArg not h27) rfl) (As rfl rfl (WL.nil (Fin.then ?_))))))))))))))))))))))))))))))
  by_cases h74 : ((p0.xPairs.ls.length : Nat) : Int) = 0
  refine Wp.cond1 rfl (decide_eq_true h74) (Wp.seq (Wp.region (Kn (v := .pointer (some ⟨g24, 2, none⟩)) rfl rfl rfl (fun _ => by kernel_rfl) (WL.val (v := .slice A0x1 p0.xKids.ls.length c0x1) rfl (Yl.load rfl (Lds.one Tryz.isAgg23 (Cls.of (H26.cls (i := 0) rfl) rfl))) (Kn (v := .pointer (some ⟨g24, 3, none⟩)) rfl rfl rfl (fun _ => by kernel_rfl) (WL.val (v := .slice A0x2 p0.xPivots.ls.length c0x2) rfl (Yl.load rfl (Lds.one Tryz.isAgg24 (Cls.of (H26.cls (i := 0) rfl) rfl))) (Kn (v := .pointer (some ⟨g24, 4, none⟩)) rfl rfl rfl (fun _ => by kernel_rfl) (WL.val (v := .slice A0x3 p0.xBuffers.ls.length c0x3) rfl (Yl.load rfl (Lds.one Tryz.isAgg25 (Cls.of (H26.cls (i := 0) rfl) rfl))) (Kn (v := .agg #[.slice A0x1 p0.xKids.ls.length c0x1, .slice A0x2 p0.xPivots.ls.length c0x2, .slice A0x3 p0.xBuffers.ls.length c0x3]) rfl rfl rfl (fun _ => by kernel_rfl) (Kn (v := .iface 76 (.agg #[.slice A0x1 p0.xKids.ls.length c0x1, .slice A0x2 p0.xPivots.ls.length c0x2, .slice A0x3 p0.xBuffers.ls.length c0x3])) rfl rfl rfl (fun _ => by kernel_rfl) (As rfl rfl (WL.nil (Fin.then (Wp.ret (Fin.blockR (Fin.thenR (Fin.res (res1 rfl rfl) (As rfl rfl (WL.nil (Fin.then (Wp.seq (Wp.seq (Wp.region (Mv rfl rfl ?_))))))))))))))))))))))))
  refine WL.do rfl (Do.call Tryz.call20 rfl ?_ (fun _ _ k => k))
  refine Calls.body (args := [.iface 76 (.agg #[.slice A0x1 p0.xKids.ls.length c0x1, .slice A0x2 p0.xPivots.ls.length c0x2, .slice A0x3 p0.xBuffers.ls.length c0x3])]) Tryz.func20 rfl rfl rfl ?_
  show Wp _ _ _ [(0, .iface 76 (.agg #[.slice A0x1 p0.xKids.ls.length c0x1, .slice A0x2 p0.xPivots.ls.length c0x2, .slice A0x3 p0.xBuffers.ls.length c0x3]))] _ _
  refine Wp.seq (Wp.region (As rfl rfl (WL.nil (Fin.then (Wp.seq (Wp.seq (Wp.region (Mv rfl rfl (WL.nil (Fin.then (Wp.block (Wp.seq (Wp.region (Kn (v := .tuple #[.agg #[.slice none 0 0], .bool false]) rfl rfl rfl (fun _ => by kernel_rfl) (Kn (v := .bool false) rfl rfl rfl (fun _ => by kernel_rfl) (Kn (v := .agg #[.slice none 0 0]) rfl rfl rfl (fun _ => by kernel_rfl) (WL.nil (Fin.then (Wp.cond0 rfl rfl (Wp.seq (Wp.region (Kn (v := .tuple #[.agg #[.slice A0x1 p0.xKids.ls.length c0x1, .slice A0x2 p0.xPivots.ls.length c0x2, .slice A0x3 p0.xBuffers.ls.length c0x3], .bool true]) rfl rfl rfl (fun _ => by kernel_rfl) (Kn (v := .bool true) rfl rfl rfl (fun _ => by kernel_rfl) (Kn (v := .agg #[.slice A0x1 p0.xKids.ls.length c0x1, .slice A0x2 p0.xPivots.ls.length c0x2, .slice A0x3 p0.xBuffers.ls.length c0x3]) rfl rfl rfl (fun _ => by kernel_rfl) (WL.nil (Fin.then (Wp.cond1 rfl rfl (Wp.seq (Wp.region ?_)))))))))))))))))))))))))))))
  refine WL.do rfl (Do.newP (cs := [.slice none 0 0, .slice none 0 0, .slice none 0 0]) (t := 76) H26 rfl rfl (fun _ => by kernel_rfl) ?_)
  intro g75 w76 H77
  refine WL.do0 (Do.store (vs := [.slice A0x1 p0.xKids.ls.length c0x1, .slice A0x2 p0.xPivots.ls.length c0x2, .slice A0x3 p0.xBuffers.ls.length c0x3]) (o := 0) H77 rfl rfl Tryz.sizeOf76 rfl rfl rfl rfl ?_)
  intro w78 H79
  refine WL.nil (Fin.then (Wp.seq (Wp.region (WL.val (v := .agg #[.slice A0x1 p0.xKids.ls.length c0x1, .slice A0x2 p0.xPivots.ls.length c0x2, .slice A0x3 p0.xBuffers.ls.length c0x3]) rfl (Yl.load rfl (Lds.agg (cs := [.slice A0x1 p0.xKids.ls.length c0x1, .slice A0x2 p0.xPivots.ls.length c0x2, .slice A0x3 p0.xBuffers.ls.length c0x3]) Tryz.isAgg76 Tryz.sizeOf76 ((H79.cls (i := 0) rfl).lit (k := 0) (m := 3) rfl))) ?_))))
  obtain ⟨r85, hr86⟩ : ∃ q, node_stem_check (stemT.mk (Ll.mk p0.xKids.ls) (Ll.mk p0.xPivots.ls) (Ll.mk p0.xBuffers.ls)) = q := ⟨_, rfl⟩
  obtain ⟨D80, HP81, ro82, bk83, rr84⟩ := Own.enter0 H79
  refine WL.do rfl (Do.call Tryz.call36 rfl (node_stem_check_ok _ _ (stemT.mk (Ll.mk p0.xKids.ls) (Ll.mk p0.xPivots.ls) (Ll.mk p0.xBuffers.ls)) A0x1 p0.xKids.ls.length c0x1 A0x2 p0.xPivots.ls.length c0x2 A0x3 p0.xBuffers.ls.length c0x3 d0x3 r85 HP81 rfl (ro82 _ hx0x1) (by first | exact ⟨Nat.le_of_ble_eq_true rfl, Nat.le_of_ble_eq_true rfl⟩ | omega | exact ⟨Nat.le_refl _, by omega⟩) rfl (ro82 _ hx0x2) (by first | exact ⟨Nat.le_of_ble_eq_true rfl, Nat.le_of_ble_eq_true rfl⟩ | omega | exact ⟨Nat.le_refl _, by omega⟩) hd0x3 rfl (ro82 _ hx0x3) (by first | exact ⟨Nat.le_of_ble_eq_true rfl, Nat.le_of_ble_eq_true rfl⟩ | omega | exact ⟨Nat.le_refl _, by omega⟩) (fun x9 h9 => ⟨ro82 _ (hm0x3 x9 h9).1, (hm0x3 x9 h9).2⟩) hr86) ?_)
  rintro _ w87 ⟨rfl, HQ88, hk90⟩
  have H89 := bk83 _ _ HQ88
  replace hk90 : ¬ (r85 = 0) ∨ (List.length (stemT.mk (Ll.mk p0.xKids.ls) (Ll.mk p0.xPivots.ls) (Ll.mk p0.xBuffers.ls)).xkids.ls ≤ 8 ∧ List.length (stemT.mk (Ll.mk p0.xKids.ls) (Ll.mk p0.xPivots.ls) (Ll.mk p0.xBuffers.ls)).xpivots.ls ≤ 8 ∧ List.length (stemT.mk (Ll.mk p0.xKids.ls) (Ll.mk p0.xPivots.ls) (Ll.mk p0.xBuffers.ls)).xbuffers.ls ≤ 8) := hk90
  refine As rfl rfl (WL.nil (Fin.then (Wp.ret (Fin.blockR (Fin.thenR (Fin.res (res1 rfl rfl) (As rfl rfl (WL.nil (Fin.then (Wp.seq (Wp.region (Mv rfl rfl (WL.val (v := .bool (decide (¬ (r85 = 0)))) rfl (Yl.bool (e := !(decide (r85 = 0))) (Yl.kern rfl rfl (fun _ => by kernel_rfl)) decide_not.symm) (WL.nil (Fin.then ?_)))))))))))))))
  by_cases h91 : r85 = 0
  refine Wp.cond0 rfl (decide_eq_false (not_not_intro h91)) (Wp.skip (Fin.then (Wp.seq (Wp.region (Mv rfl rfl ?_)))))
  refine WL.do rfl (Do.call Tryz.call21 rfl ?_ (fun _ _ k => k))
  refine Calls.body (args := [.iface 76 (.agg #[.slice A0x1 p0.xKids.ls.length c0x1, .slice A0x2 p0.xPivots.ls.length c0x2, .slice A0x3 p0.xBuffers.ls.length c0x3])]) Tryz.func21 rfl rfl rfl ?_
  show Wp _ _ _ [(0, .iface 76 (.agg #[.slice A0x1 p0.xKids.ls.length c0x1, .slice A0x2 p0.xPivots.ls.length c0x2, .slice A0x3 p0.xBuffers.ls.length c0x3]))] _ _
  refine Wp.seq (Wp.region (As rfl rfl (WL.nil (Fin.then (Wp.seq (Wp.seq (Wp.region (Mv rfl rfl (WL.nil (Fin.then (Wp.block (Wp.seq (Wp.region (Kn (v := .tuple #[.agg #[.slice none 0 0], .bool false]) rfl rfl rfl (fun _ => by kernel_rfl) (Kn (v := .bool false) rfl rfl rfl (fun _ => by kernel_rfl) (Kn (v := .agg #[.slice none 0 0]) rfl rfl rfl (fun _ => by kernel_rfl) (WL.nil (Fin.then (Wp.cond0 rfl rfl (Wp.seq (Wp.region (Kn (v := .tuple #[.agg #[.slice A0x1 p0.xKids.ls.length c0x1, .slice A0x2 p0.xPivots.ls.length c0x2, .slice A0x3 p0.xBuffers.ls.length c0x3], .bool true]) rfl rfl rfl (fun _ => by kernel_rfl) (Kn (v := .bool true) rfl rfl rfl (fun _ => by kernel_rfl) (Kn (v := .agg #[.slice A0x1 p0.xKids.ls.length c0x1, .slice A0x2 p0.xPivots.ls.length c0x2, .slice A0x3 p0.xBuffers.ls.length c0x3]) rfl rfl rfl (fun _ => by kernel_rfl) (WL.nil (Fin.then (Wp.cond1 rfl rfl (Wp.seq (Wp.region ?_)))))))))))))))))))))))))))))
  refine WL.do rfl (Do.newP (cs := [.slice none 0 0, .slice none 0 0, .slice none 0 0]) (t := 76) H89 rfl rfl (fun _ => by kernel_rfl) ?_)
  intro g92 w93 H94
  refine WL.do0 (Do.store (vs := [.slice A0x1 p0.xKids.ls.length c0x1, .slice A0x2 p0.xPivots.ls.length c0x2, .slice A0x3 p0.xBuffers.ls.length c0x3]) (o := 0) H94 rfl rfl Tryz.sizeOf76 rfl rfl rfl rfl ?_)
  intro w95 H96
  refine WL.nil (Fin.then (Wp.seq (Wp.region (WL.val (v := .agg #[.slice A0x1 p0.xKids.ls.length c0x1, .slice A0x2 p0.xPivots.ls.length c0x2, .slice A0x3 p0.xBuffers.ls.length c0x3]) rfl (Yl.load rfl (Lds.agg (cs := [.slice A0x1 p0.xKids.ls.length c0x1, .slice A0x2 p0.xPivots.ls.length c0x2, .slice A0x3 p0.xBuffers.ls.length c0x3]) Tryz.isAgg76 Tryz.sizeOf76 ((H96.cls (i := 0) rfl).lit (k := 0) (m := 3) rfl))) ?_))))
  obtain ⟨r102, hr103⟩ : ∃ q, node_stem_write (stemT.mk (Ll.mk p0.xKids.ls) (Ll.mk p0.xPivots.ls) (Ll.mk p0.xBuffers.ls)) = q := ⟨_, rfl⟩
  obtain ⟨D97, HP98, ro99, bk100, rr101⟩ := Own.enter0 H96
  refine WL.do rfl (Do.call Tryz.call38 rfl (node_stem_write_ok _ _ (stemT.mk (Ll.mk p0.xKids.ls) (Ll.mk p0.xPivots.ls) (Ll.mk p0.xBuffers.ls)) A0x1 p0.xKids.ls.length c0x1 A0x2 p0.xPivots.ls.length c0x2 A0x3 p0.xBuffers.ls.length c0x3 d0x3 r102 HP98 rfl (ro99 _ hx0x1) (by first | exact ⟨Nat.le_of_ble_eq_true rfl, Nat.le_of_ble_eq_true rfl⟩ | omega | exact ⟨Nat.le_refl _, by omega⟩) rfl (ro99 _ hx0x2) (by first | exact ⟨Nat.le_of_ble_eq_true rfl, Nat.le_of_ble_eq_true rfl⟩ | omega | exact ⟨Nat.le_refl _, by omega⟩) hd0x3 rfl (ro99 _ hx0x3) (by first | exact ⟨Nat.le_of_ble_eq_true rfl, Nat.le_of_ble_eq_true rfl⟩ | omega | exact ⟨Nat.le_refl _, by omega⟩) (fun x9 h9 => ⟨ro99 _ (hm0x3 x9 h9).1, (hm0x3 x9 h9).2⟩) (by exact ⟨by omega, by omega, ⟨by omega, hh0.2.1⟩, hh0.2.2⟩) hr103) ?_)
  rintro _ w104 ⟨A107, c108, rfl, HQ105, hk109⟩
  have H106 := bk100 _ _ HQ105
  have hb110 := H106.rowC (i := 0) rfl
  replace hk109 : r102.length ≤ 17592454480123 := hk109
  refine As rfl rfl (WL.nil (Fin.then (Wp.ret (Fin.blockR (Fin.thenR (Fin.res (res1 rfl rfl) (As rfl rfl (WL.nil (Fin.then (Wp.seq (Wp.seq (Wp.region (Mv rfl rfl (Kn (v := .int .i64 ((r102.length : Nat) : Int)) rfl rfl rfl (fun _ => by kernel_rfl) (Kn (v := .bool (decide (((r102.length : Nat) : Int) > 480))) rfl rfl rfl (fun _ => by kernel_rfl) (WL.nil (Fin.then ?_)))))))))))))))))
  by_cases h111 : ((r102.length : Nat) : Int) > 480
  refine Wp.cond1 rfl (decide_eq_true h111) (Wp.seq (Wp.region (As rfl rfl (As rfl rfl (WL.nil (Fin.then (Wp.ret (Fin.thenR (Fin.res (res2 rfl rfl rfl) ?_)))))))))
  have H112 : Own w D w104 [row none 0 0 (List.flatMap eB ([])) 5 1, row A107 r102.length c108 (List.flatMap eB r102) 5 1, blk g92 [.slice A0x1 p0.xKids.ls.length c0x1, .slice A0x2 p0.xPivots.ls.length c0x2, .slice A0x3 p0.xBuffers.ls.length c0x3] 76, blk g75 [.slice A0x1 p0.xKids.ls.length c0x1, .slice A0x2 p0.xPivots.ls.length c0x2, .slice A0x3 p0.xBuffers.ls.length c0x3] 76, blk g24 [.bool p0.xLeaf, .slice A0x0 p0.xPairs.ls.length c0x0, .slice A0x1 p0.xKids.ls.length c0x1, .slice A0x2 p0.xPivots.ls.length c0x2, .slice A0x3 p0.xBuffers.ls.length c0x3] 27, blk g21 [.bool p0.xLeaf, .slice A0x0 p0.xPairs.ls.length c0x0, .slice A0x1 p0.xKids.ls.length c0x1, .slice A0x2 p0.xPivots.ls.length c0x2, .slice A0x3 p0.xBuffers.ls.length c0x3] 27] := H106.free (row_nil 5 1)
  have H113 : Own w D w104 [row none 0 0 (List.flatMap eB ([])) 5 1] := H112.pick [0] (by decide) rfl
  have e : node_Encode p0 = ([], 2) := Eq.trans (ifF h27) (Eq.trans (if_pos h74) (Eq.trans (bnd_of hr86) (Eq.trans (if_pos h91) (Eq.trans (bnd_of hr103) (if_pos h111)))))
  obtain ⟨rfl, rfl⟩ := pj2 (e.symm.trans hr)
  exact ⟨none, 0, rfl, H113, (by first | omega | exact Nat.zero_le _)⟩
  refine Wp.cond0 rfl (decide_eq_false h111) (Wp.skip (Fin.then (Wp.seq (Wp.region (Mv rfl rfl (As rfl rfl (As rfl rfl (WL.nil (Fin.then (Wp.ret (Fin.res (res2 rfl rfl rfl) ?_)))))))))))
  have H114 := H106.pick [0] (by decide) rfl
  have e : node_Encode p0 = (r102, 0) := Eq.trans (ifF h27) (Eq.trans (if_pos h74) (Eq.trans (bnd_of hr86) (Eq.trans (if_pos h91) (Eq.trans (bnd_of hr103) (if_neg h111)))))
  obtain ⟨rfl, rfl⟩ := pj2 (e.symm.trans hr)
  exact ⟨A107, c108, rfl, H114, (by first | omega | exact Nat.zero_le _)⟩
  refine Wp.cond1 rfl (decide_eq_true h91) (Wp.seq (Wp.region (Mv rfl rfl (As rfl rfl (As rfl rfl (WL.nil (Fin.then (Wp.ret (Fin.thenR (Fin.res (res2 rfl rfl rfl) ?_))))))))))
  have H115 : Own w D w87 [row none 0 0 (List.flatMap eB ([])) 5 1, blk g75 [.slice A0x1 p0.xKids.ls.length c0x1, .slice A0x2 p0.xPivots.ls.length c0x2, .slice A0x3 p0.xBuffers.ls.length c0x3] 76, blk g24 [.bool p0.xLeaf, .slice A0x0 p0.xPairs.ls.length c0x0, .slice A0x1 p0.xKids.ls.length c0x1, .slice A0x2 p0.xPivots.ls.length c0x2, .slice A0x3 p0.xBuffers.ls.length c0x3] 27, blk g21 [.bool p0.xLeaf, .slice A0x0 p0.xPairs.ls.length c0x0, .slice A0x1 p0.xKids.ls.length c0x1, .slice A0x2 p0.xPivots.ls.length c0x2, .slice A0x3 p0.xBuffers.ls.length c0x3] 27] := H89.free (row_nil 5 1)
  have H116 : Own w D w87 [row none 0 0 (List.flatMap eB ([])) 5 1] := H115.pick [0] (by decide) rfl
  have e : node_Encode p0 = ([], r85) := Eq.trans (ifF h27) (Eq.trans (if_pos h74) (Eq.trans (bnd_of hr86) (if_neg h91)))
  obtain ⟨rfl, rfl⟩ := pj2 (e.symm.trans hr)
  exact ⟨none, 0, rfl, H116, (by first | omega | exact Nat.zero_le _)⟩
  refine Wp.cond0 rfl (decide_eq_false h74) (Wp.skip (Fin.blockN (Fin.then (Wp.seq (Wp.region (As rfl rfl (WL.nil (Fin.then (Wp.ret (Fin.res (res1 rfl rfl) (As rfl rfl (WL.nil (Fin.then (Wp.seq (Wp.seq (Wp.region (Mv rfl rfl ?_)))))))))))))))))
  refine WL.do rfl (Do.call Tryz.call20 rfl ?_ (fun _ _ k => k))
  refine Calls.body (args := [.nilIface]) Tryz.func20 rfl rfl rfl ?_
  show Wp _ _ _ [(0, .nilIface)] _ _
  refine Wp.seq (Wp.region (As rfl rfl (WL.nil (Fin.then (Wp.seq (Wp.seq (Wp.region (Mv rfl rfl (WL.nil (Fin.then (Wp.block (Wp.seq (Wp.region (Kn (v := .tuple #[.agg #[.slice none 0 0], .bool false]) rfl rfl rfl (fun _ => by kernel_rfl) (Kn (v := .bool false) rfl rfl rfl (fun _ => by kernel_rfl) (Kn (v := .agg #[.slice none 0 0]) rfl rfl rfl (fun _ => by kernel_rfl) (WL.nil (Fin.then (Wp.cond0 rfl rfl (Wp.seq (Wp.region (Kn (v := .tuple #[.agg #[.slice none 0 0, .slice none 0 0, .slice none 0 0], .bool false]) rfl rfl rfl (fun _ => by kernel_rfl) (Kn (v := .bool false) rfl rfl rfl (fun _ => by kernel_rfl) (Kn (v := .agg #[.slice none 0 0, .slice none 0 0, .slice none 0 0]) rfl rfl rfl (fun _ => by kernel_rfl) (WL.nil (Fin.then (Wp.cond0 rfl rfl (Wp.skip (Fin.blockN (Fin.then (Wp.seq (Wp.region (As rfl rfl (WL.nil (Fin.then (Wp.ret (Fin.res (res1 rfl rfl) (As rfl rfl (WL.nil ?_)))))))))))))))))))))))))))))))))))))))
  refine Fin.then (Wp.seq (Wp.region (Mv rfl rfl (Kn (v := .bool true) rfl rfl rfl (fun _ => by kernel_rfl) (WL.nil (Fin.then (Wp.cond1 rfl rfl (Wp.seq (Wp.region (Mv rfl rfl (As rfl rfl (As rfl rfl (WL.nil (Fin.then (Wp.ret (Fin.thenR (Fin.res (res2 rfl rfl rfl) ?_)))))))))))))))))
  have H117 : Own w D w25 [row none 0 0 (List.flatMap eB ([])) 5 1, blk g24 [.bool p0.xLeaf, .slice A0x0 p0.xPairs.ls.length c0x0, .slice A0x1 p0.xKids.ls.length c0x1, .slice A0x2 p0.xPivots.ls.length c0x2, .slice A0x3 p0.xBuffers.ls.length c0x3] 27, blk g21 [.bool p0.xLeaf, .slice A0x0 p0.xPairs.ls.length c0x0, .slice A0x1 p0.xKids.ls.length c0x1, .slice A0x2 p0.xPivots.ls.length c0x2, .slice A0x3 p0.xBuffers.ls.length c0x3] 27] := H26.free (row_nil 5 1)
  have H118 : Own w D w25 [row none 0 0 (List.flatMap eB ([])) 5 1] := H117.pick [0] (by decide) rfl
  have e : node_Encode p0 = ([], 130) := Eq.trans (ifF h27) (if_neg h74)
  obtain ⟨rfl, rfl⟩ := pj2 (e.symm.trans hr)
  exact ⟨none, 0, rfl, H118, (by first | omega | exact Nat.zero_le _)⟩

def node_Size (p0 : NodeT) : Int × Int :=
  if p0.xLeaf = true then if IntKind.i64.wrap ((IntKind.i64.wrap (((p0.xKids.ls.length : Nat) : Int) + ((p0.xPivots.ls.length : Nat) : Int))) + ((p0.xBuffers.ls.length : Nat) : Int)) = 0 then bnd (op_CheckMap p0.xPairs.ls) fun yr39 => if yr39 = 0 then bnd (node_leaf_write (leafT.mk (Ll.mk p0.xPairs.ls))) fun yr55 => (((yr55.length : Nat) : Int), 0) else (0, yr39) else (0, 130) else if ((p0.xPairs.ls.length : Nat) : Int) = 0 then bnd (node_stem_check (stemT.mk (Ll.mk p0.xKids.ls) (Ll.mk p0.xPivots.ls) (Ll.mk p0.xBuffers.ls))) fun yr80 => if yr80 = 0 then bnd (node_stem_write (stemT.mk (Ll.mk p0.xKids.ls) (Ll.mk p0.xPivots.ls) (Ll.mk p0.xBuffers.ls))) fun yr97 => (((yr97.length : Nat) : Int), 0) else (0, yr80) else (0, 130)

set_option maxRecDepth 100000 in
theorem node_Size_ok (w : World) (D : Nat → Prop) (p0 : NodeT) (A0x0 : Option Addr) (n0x0 c0x0 : Nat) (A0x1 : Option Addr) (n0x1 c0x1 : Nat) (A0x2 : Option Addr) (n0x2 c0x2 : Nat) (A0x3 : Option Addr) (n0x3 c0x3 : Nat) (d0x3 : List Row46D) (r0 : Int) (r1 : Int) (H : Own w D w []) (hn0x0 : n0x0 = p0.xPairs.ls.length) (hx0x0 : Ro w D fun w' => Rds w' 2 A0x0 p0.xPairs.ls.length (List.flatMap PairD.cells p0.xPairs.ls)) (hb0x0 : p0.xPairs.ls.length ≤ c0x0 ∧ p0.xPairs.ls.length ≤ 9223372036854775807) (hn0x1 : n0x1 = p0.xKids.ls.length) (hx0x1 : Ro w D fun w' => Rds w' 1 A0x1 p0.xKids.ls.length (List.flatMap (eI .i64) p0.xKids.ls)) (hb0x1 : p0.xKids.ls.length ≤ c0x1 ∧ p0.xKids.ls.length ≤ 9223372036854775807) (hn0x2 : n0x2 = p0.xPivots.ls.length) (hx0x2 : Ro w D fun w' => Rds w' 1 A0x2 p0.xPivots.ls.length (List.flatMap eS p0.xPivots.ls)) (hb0x2 : p0.xPivots.ls.length ≤ c0x2 ∧ p0.xPivots.ls.length ≤ 9223372036854775807) (hd0x3 : List.map Row46D.abs d0x3 = p0.xBuffers.ls) (hn0x3 : n0x3 = p0.xBuffers.ls.length) (hx0x3 : Ro w D fun w' => Rds w' 1 A0x3 p0.xBuffers.ls.length (List.flatMap (Sv.enc (β := EntryD)) d0x3)) (hb0x3 : p0.xBuffers.ls.length ≤ c0x3 ∧ p0.xBuffers.ls.length ≤ 9223372036854775807) (hm0x3 : ∀ x ∈ d0x3, Ro w D (fun w' => Rds w' 7 x.A x.ls.length (List.flatMap EntryD.cells x.ls)) ∧ x.ls.length ≤ 9223372036854775807) (hh0 : ((p0.xPairs.ls.length ≤ 1048576 ∧ ∀ x ∈ p0.xPairs.ls, x.xKey.length ≤ 1048576 ∧ x.xValue.length ≤ 1048576) ∧ (∀ x ∈ p0.xPivots.ls, x.length ≤ 1048576) ∧ ∀ b ∈ p0.xBuffers.ls, b.ls.length ≤ 1048576 ∧ ∀ x ∈ b.ls, x.xSeq ≤ 18446744073709551615 ∧ x.xOp.xKey.length ≤ 1048576 ∧ x.xOp.xValue.length ≤ 1048576 ∧ x.xOp.xLo.length ≤ 1048576 ∧ x.xOp.xHi.length ≤ 1048576)) (hr : node_Size p0 = (r0, r1)) :
    Calls Tryz.prog 8 #[.agg #[.bool p0.xLeaf, .slice A0x0 n0x0 c0x0, .slice A0x1 n0x1 c0x1, .slice A0x2 n0x2 c0x2, .slice A0x3 n0x3 c0x3]] w (Ret fun v w' => v = .tuple #[.int .i64 r0, .int .i64 r1] ∧ Own w D w' []) := by
  subst hn0x0 hn0x1 hn0x2 hn0x3
  have hdl0x3 := abs_len hd0x3
  refine Calls.body (args := [.agg #[.bool p0.xLeaf, .slice A0x0 p0.xPairs.ls.length c0x0, .slice A0x1 p0.xKids.ls.length c0x1, .slice A0x2 p0.xPivots.ls.length c0x2, .slice A0x3 p0.xBuffers.ls.length c0x3]]) Tryz.func8 rfl rfl rfl ?_
  show Wp _ _ _ [(0, .agg #[.bool p0.xLeaf, .slice A0x0 p0.xPairs.ls.length c0x0, .slice A0x1 p0.xKids.ls.length c0x1, .slice A0x2 p0.xPivots.ls.length c0x2, .slice A0x3 p0.xBuffers.ls.length c0x3])] _ _
  refine Wp.seq (Wp.region ?_)
  refine WL.do rfl (Do.newP (cs := [.bool p0.xLeaf, .slice A0x0 p0.xPairs.ls.length c0x0, .slice A0x1 p0.xKids.ls.length c0x1, .slice A0x2 p0.xPivots.ls.length c0x2, .slice A0x3 p0.xBuffers.ls.length c0x3]) (t := 27) H rfl rfl (fun _ => by kernel_rfl) ?_)
  intro g21 w22 H23
  refine As rfl rfl (As rfl rfl (WL.nil (Fin.then (Wp.seq (Wp.region (WL.val (v := .agg #[.bool p0.xLeaf, .slice A0x0 p0.xPairs.ls.length c0x0, .slice A0x1 p0.xKids.ls.length c0x1, .slice A0x2 p0.xPivots.ls.length c0x2, .slice A0x3 p0.xBuffers.ls.length c0x3]) rfl (Yl.load rfl (Lds.agg (cs := [.bool p0.xLeaf, .slice A0x0 p0.xPairs.ls.length c0x0, .slice A0x1 p0.xKids.ls.length c0x1, .slice A0x2 p0.xPivots.ls.length c0x2, .slice A0x3 p0.xBuffers.ls.length c0x3]) Tryz.isAgg27 Tryz.sizeOf27 ((H23.cls (i := 0) rfl).lit (k := 0) (m := 5) rfl))) ?_))))))
  refine WL.do rfl (Do.call Tryz.call19 rfl ?_ (fun _ _ k => k))
  refine Calls.body (args := [.agg #[.bool p0.xLeaf, .slice A0x0 p0.xPairs.ls.length c0x0, .slice A0x1 p0.xKids.ls.length c0x1, .slice A0x2 p0.xPivots.ls.length c0x2, .slice A0x3 p0.xBuffers.ls.length c0x3]]) Tryz.func19 rfl rfl rfl ?_
  show Wp _ _ _ [(0, .agg #[.bool p0.xLeaf, .slice A0x0 p0.xPairs.ls.length c0x0, .slice A0x1 p0.xKids.ls.length c0x1, .slice A0x2 p0.xPivots.ls.length c0x2, .slice A0x3 p0.xBuffers.ls.length c0x3])] _ _
  refine Wp.seq (Wp.region ?_)
  refine WL.do rfl (Do.newP (cs := [.bool p0.xLeaf, .slice A0x0 p0.xPairs.ls.length c0x0, .slice A0x1 p0.xKids.ls.length c0x1, .slice A0x2 p0.xPivots.ls.length c0x2, .slice A0x3 p0.xBuffers.ls.length c0x3]) (t := 27) H23 rfl rfl (fun _ => by kernel_rfl) ?_)
  intro g24 w25 H26
  refine As rfl rfl (WL.nil (Fin.then (Wp.seq (Wp.block (Wp.seq (Wp.region (Kn (v := .pointer (some ⟨g24, 0, none⟩)) rfl rfl rfl (fun _ => by kernel_rfl) (WL.val (v := .bool p0.xLeaf) rfl (Yl.load rfl (Lds.one Tryz.isAgg4 (Cls.of (H26.cls (i := 0) rfl) rfl))) (Mv rfl rfl ?_)))))))))
  rcases Bool.eq_false_or_eq_true (p0.xLeaf) with h27 | h27
  refine WL.valG (v := .pointer (some ⟨g24, 2, none⟩)) rfl rfl h27 rfl (Yl.kern rfl rfl (fun _ => by kernel_rfl)) (WL.valG (v := .slice A0x1 p0.xKids.ls.length c0x1) rfl rfl h27 rfl (Yl.load rfl (Lds.one Tryz.isAgg23 (Cls.of (H26.cls (i := 0) rfl) rfl))) (WL.valG (v := .int .i64 ((p0.xKids.ls.length : Nat) : Int)) rfl rfl h27 rfl (Yl.kern rfl rfl (fun _ => by kernel_rfl)) (WL.valG (v := .pointer (some ⟨g24, 3, none⟩)) rfl rfl h27 rfl (Yl.kern rfl rfl (fun _ => by kernel_rfl)) (WL.valG (v := .slice A0x2 p0.xPivots.ls.length c0x2) rfl rfl h27 rfl (Yl.load rfl (Lds.one Tryz.isAgg24 (Cls.of (H26.cls (i := 0) rfl) rfl))) (WL.valG (v := .int .i64 ((p0.xPivots.ls.length : Nat) : Int)) rfl rfl h27 rfl (Yl.kern rfl rfl (fun _ => by kernel_rfl)) (WL.valG (v := .int .i64 (IntKind.i64.wrap (((p0.xKids.ls.length : Nat) : Int) + ((p0.xPivots.ls.length : Nat) : Int)))) rfl rfl h27 rfl (Yl.kern rfl rfl (fun _ => by kernel_rfl)) (WL.valG (v := .pointer (some ⟨g24, 4, none⟩)) rfl rfl h27 rfl (Yl.kern rfl rfl (fun _ => by kernel_rfl)) (WL.valG (v := .slice A0x3 p0.xBuffers.ls.length c0x3) rfl rfl h27 rfl (Yl.load rfl (Lds.one Tryz.isAgg25 (Cls.of (H26.cls (i := 0) rfl) rfl))) (WL.valG (v := .int .i64 ((p0.xBuffers.ls.length : Nat) : Int)) rfl rfl h27 rfl (Yl.kern rfl rfl (fun _ => by kernel_rfl)) (WL.valG (v := .int .i64 (IntKind.i64.wrap ((IntKind.i64.wrap (((p0.xKids.ls.length : Nat) : Int) + ((p0.xPivots.ls.length : Nat) : Int))) + ((p0.xBuffers.ls.length : Nat) : Int)))) rfl rfl h27 rfl (Yl.kern rfl rfl (fun _ => by kernel_rfl)) (WL.valG (v := .bool (decide (IntKind.i64.wrap ((IntKind.i64.wrap (((p0.xKids.ls.length : Nat) : Int) + ((p0.xPivots.ls.length : Nat) : Int))) + ((p0.xBuffers.ls.length : Nat) : Int)) = 0))) rfl rfl h27 rfl (Yl.kern rfl rfl (fun _ => by kernel_rfl)) (WL.val (v := .bool (decide (IntKind.i64.wrap ((IntKind.i64.wrap (((p0.xKids.ls.length : Nat) : Int) + ((p0.xPivots.ls.length : Nat) : Int))) + ((p0.xBuffers.ls.length : Nat) : Int)) = 0))) rfl (Yl.pickT rfl h27 rfl) (As rfl rfl (WL.nil (Fin.then ?_)))))))))))))))
  by_cases h28 : IntKind.i64.wrap ((IntKind.i64.wrap (((p0.xKids.ls.length : Nat) : Int) + ((p0.xPivots.ls.length : Nat) : Int))) + ((p0.xBuffers.ls.length : Nat) : Int)) = 0
  refine Wp.cond1 rfl (decide_eq_true h28) (Wp.seq (Wp.region (Kn (v := .pointer (some ⟨g24, 1, none⟩)) rfl rfl rfl (fun _ => by kernel_rfl) (WL.val (v := .slice A0x0 p0.xPairs.ls.length c0x0) rfl (Yl.load rfl (Lds.one Tryz.isAgg22 (Cls.of (H26.cls (i := 0) rfl) rfl))) (Kn (v := .agg #[.slice A0x0 p0.xPairs.ls.length c0x0]) rfl rfl rfl (fun _ => by kernel_rfl) (Kn (v := .iface 74 (.agg #[.slice A0x0 p0.xPairs.ls.length c0x0])) rfl rfl rfl (fun _ => by kernel_rfl) (As rfl rfl (WL.nil (Fin.then (Wp.ret (Fin.blockR (Fin.thenR (Fin.res (res1 rfl rfl) (As rfl rfl (WL.nil (Fin.then (Wp.seq (Wp.seq (Wp.region (Mv rfl rfl ?_))))))))))))))))))))
  refine WL.do rfl (Do.call Tryz.call20 rfl ?_ (fun _ _ k => k))
  refine Calls.body (args := [.iface 74 (.agg #[.slice A0x0 p0.xPairs.ls.length c0x0])]) Tryz.func20 rfl rfl rfl ?_
  show Wp _ _ _ [(0, .iface 74 (.agg #[.slice A0x0 p0.xPairs.ls.length c0x0]))] _ _
  refine Wp.seq (Wp.region (As rfl rfl (WL.nil (Fin.then (Wp.seq (Wp.seq (Wp.region (Mv rfl rfl (WL.nil (Fin.then (Wp.block (Wp.seq (Wp.region (Kn (v := .tuple #[.agg #[.slice A0x0 p0.xPairs.ls.length c0x0], .bool true]) rfl rfl rfl (fun _ => by kernel_rfl) (Kn (v := .bool true) rfl rfl rfl (fun _ => by kernel_rfl) (Kn (v := .agg #[.slice A0x0 p0.xPairs.ls.length c0x0]) rfl rfl rfl (fun _ => by kernel_rfl) (WL.nil (Fin.then (Wp.cond1 rfl rfl (Wp.seq (Wp.region ?_)))))))))))))))))))))
  refine WL.do rfl (Do.newP (cs := [.slice none 0 0]) (t := 74) H26 rfl rfl (fun _ => by kernel_rfl) ?_)
  intro g29 w30 H31
  refine WL.do0 (Do.store (vs := [.slice A0x0 p0.xPairs.ls.length c0x0]) (o := 0) H31 rfl rfl Tryz.sizeOf74 rfl rfl rfl rfl ?_)
  intro w32 H33
  refine WL.nil (Fin.then (Wp.seq (Wp.region (Kn (v := .pointer (some ⟨g29, 0, none⟩)) rfl rfl rfl (fun _ => by kernel_rfl) (WL.val (v := .slice A0x0 p0.xPairs.ls.length c0x0) rfl (Yl.load rfl (Lds.one Tryz.isAgg22 (Cls.of (H33.cls (i := 0) rfl) rfl))) ?_)))))
  obtain ⟨r39, hr40⟩ : ∃ q, op_CheckMap p0.xPairs.ls = q := ⟨_, rfl⟩
  obtain ⟨D34, HP35, ro36, bk37, rr38⟩ := Own.enter0 H33
  refine WL.do rfl (Do.call Tryz.call35 rfl (op_CheckMap_ok _ _ A0x0 p0.xPairs.ls.length c0x0 p0.xPairs.ls r39 HP35 (ro36 _ hx0x0) rfl (by omega) hr40) ?_)
  rintro _ w41 ⟨rfl, HQ42⟩
  have H43 := bk37 _ _ HQ42
  refine As rfl rfl (WL.nil (Fin.then (Wp.ret (Fin.blockR (Fin.thenR (Fin.res (res1 rfl rfl) (As rfl rfl (WL.nil (Fin.then (Wp.seq (Wp.region (Mv rfl rfl (WL.val (v := .bool (decide (¬ (r39 = 0)))) rfl (Yl.bool (e := !(decide (r39 = 0))) (Yl.kern rfl rfl (fun _ => by kernel_rfl)) decide_not.symm) (WL.nil (Fin.then ?_)))))))))))))))
  by_cases h44 : r39 = 0
  refine Wp.cond0 rfl (decide_eq_false (not_not_intro h44)) (Wp.skip (Fin.then (Wp.seq (Wp.region (Mv rfl rfl ?_)))))
  refine WL.do rfl (Do.call Tryz.call21 rfl ?_ (fun _ _ k => k))
  refine Calls.body (args := [.iface 74 (.agg #[.slice A0x0 p0.xPairs.ls.length c0x0])]) Tryz.func21 rfl rfl rfl ?_
  show Wp _ _ _ [(0, .iface 74 (.agg #[.slice A0x0 p0.xPairs.ls.length c0x0]))] _ _
  refine Wp.seq (Wp.region (As rfl rfl (WL.nil (Fin.then (Wp.seq (Wp.seq (Wp.region (Mv rfl rfl (WL.nil (Fin.then (Wp.block (Wp.seq (Wp.region (Kn (v := .tuple #[.agg #[.slice A0x0 p0.xPairs.ls.length c0x0], .bool true]) rfl rfl rfl (fun _ => by kernel_rfl) (Kn (v := .bool true) rfl rfl rfl (fun _ => by kernel_rfl) (Kn (v := .agg #[.slice A0x0 p0.xPairs.ls.length c0x0]) rfl rfl rfl (fun _ => by kernel_rfl) (WL.nil (Fin.then (Wp.cond1 rfl rfl (Wp.seq (Wp.region ?_)))))))))))))))))))))
  refine WL.do rfl (Do.newP (cs := [.slice none 0 0]) (t := 74) H43 rfl rfl (fun _ => by kernel_rfl) ?_)
  intro g45 w46 H47
  refine WL.do0 (Do.store (vs := [.slice A0x0 p0.xPairs.ls.length c0x0]) (o := 0) H47 rfl rfl Tryz.sizeOf74 rfl rfl rfl rfl ?_)
  intro w48 H49
  refine WL.nil (Fin.then (Wp.seq (Wp.region (WL.val (v := .agg #[.slice A0x0 p0.xPairs.ls.length c0x0]) rfl (Yl.load rfl (Lds.agg (cs := [.slice A0x0 p0.xPairs.ls.length c0x0]) Tryz.isAgg74 Tryz.sizeOf74 ((H49.cls (i := 0) rfl).lit (k := 0) (m := 1) rfl))) ?_))))
  obtain ⟨r55, hr56⟩ : ∃ q, node_leaf_write (leafT.mk (Ll.mk p0.xPairs.ls)) = q := ⟨_, rfl⟩
  obtain ⟨D50, HP51, ro52, bk53, rr54⟩ := Own.enter0 H49
  refine WL.do rfl (Do.call Tryz.call37 rfl (node_leaf_write_ok _ _ (leafT.mk (Ll.mk p0.xPairs.ls)) A0x0 p0.xPairs.ls.length c0x0 r55 HP51 rfl (ro52 _ hx0x0) (by first | exact ⟨Nat.le_of_ble_eq_true rfl, Nat.le_of_ble_eq_true rfl⟩ | omega | exact ⟨Nat.le_refl _, by omega⟩) (by exact hh0.1) hr56) ?_)
  rintro _ w57 ⟨A60, c61, rfl, HQ58, hk62⟩
  have H59 := bk53 _ _ HQ58
  have hb63 := H59.rowC (i := 0) rfl
  replace hk62 : ((r55.length : Nat) : Int) ≤ 11 + 2097172 * ((List.length (leafT.mk (Ll.mk p0.xPairs.ls)).xpairs.ls : Nat) : Int) := hk62
  refine As rfl rfl (WL.nil (Fin.then (Wp.ret (Fin.blockR (Fin.thenR (Fin.res (res1 rfl rfl) (Kn (v := .int .i64 ((r55.length : Nat) : Int)) rfl rfl rfl (fun _ => by kernel_rfl) (As rfl rfl (As rfl rfl (WL.nil (Fin.then (Wp.ret (Fin.res (res2 rfl rfl rfl) ?_)))))))))))))
  have H64 := H59.pick [] (by decide) rfl
  have e : node_Size p0 = (((r55.length : Nat) : Int), 0) := Eq.trans (if_pos h27) (Eq.trans (if_pos h28) (Eq.trans (bnd_of hr40) (Eq.trans (if_pos h44) (bnd_of hr56))))
  obtain ⟨rfl, rfl⟩ := pj2 (e.symm.trans hr)
  exact ⟨rfl, H64⟩
  refine Wp.cond1 rfl (decide_eq_true h44) (Wp.seq (Wp.region (Mv rfl rfl (As rfl rfl (As rfl rfl (WL.nil (Fin.then (Wp.ret (Fin.thenR (Fin.res (res2 rfl rfl rfl) ?_))))))))))
  have H65 := H43.pick [] (by decide) rfl
  have e : node_Size p0 = (0, r39) := Eq.trans (if_pos h27) (Eq.trans (if_pos h28) (Eq.trans (bnd_of hr40) (if_neg h44)))
  obtain ⟨rfl, rfl⟩ := pj2 (e.symm.trans hr)
  exact ⟨rfl, H65⟩
  refine Wp.cond0 rfl (decide_eq_false h28) (Wp.seq (Wp.region (Kn (v := .pointer (some ⟨g24, 0, none⟩)) rfl rfl rfl (fun _ => by kernel_rfl) (WL.val (v := .bool p0.xLeaf) rfl (Yl.load rfl (Lds.one Tryz.isAgg4 (Cls.of (H26.cls (i := 0) rfl) rfl))) (Kn (v := .bool (!p0.xLeaf)) rfl rfl rfl (fun _ => by kernel_rfl) (Mv rfl rfl (Sk rfl rfl (congrArg not h27) rfl (Sk rfl rfl (congrArg not h27) rfl (Sk rfl rfl (congrArg not h27) rfl (Sk rfl rfl (congrArg not h27) rfl (WL.val (v := .bool false) rfl (Yl.pickF rfl (congrArg not h27) rfl) (As rfl rfl (WL.nil (Fin.then (Wp.cond0 rfl rfl (Wp.skip (Fin.blockN (Fin.then (Wp.seq (Wp.region (As rfl rfl (WL.nil (Fin.then (Wp.ret (Fin.res (res1 rfl rfl) (As rfl rfl (WL.nil (Fin.then (Wp.seq (Wp.seq (Wp.region (Mv rfl rfl ?_))))))))))))))))))))))))))))))))
  refine WL.do rfl (Do.call Tryz.call20 rfl ?_ (fun _ _ k => k))
  refine Calls.body (args := [.nilIface]) Tryz.func20 rfl rfl rfl ?_
  show Wp _ _ _ [(0, .nilIface)] _ _
  refine Wp.seq (Wp.region (As rfl rfl (WL.nil (Fin.then (Wp.seq (Wp.seq (Wp.region (Mv rfl rfl (WL.nil (Fin.then (Wp.block (Wp.seq (Wp.region (Kn (v := .tuple #[.agg #[.slice none 0 0], .bool false]) rfl rfl rfl (fun _ => by kernel_rfl) (Kn (v := .bool false) rfl rfl rfl (fun _ => by kernel_rfl) (Kn (v := .agg #[.slice none 0 0]) rfl rfl rfl (fun _ => by kernel_rfl) (WL.nil (Fin.then (Wp.cond0 rfl rfl (Wp.seq (Wp.region (Kn (v := .tuple #[.agg #[.slice none 0 0, .slice none 0 0, .slice none 0 0], .bool false]) rfl rfl rfl (fun _ => by kernel_rfl) (Kn (v := .bool false) rfl rfl rfl (fun _ => by kernel_rfl) (Kn (v := .agg #[.slice none 0 0, .slice none 0 0, .slice none 0 0]) rfl rfl rfl (fun _ => by kernel_rfl) (WL.nil (Fin.then (Wp.cond0 rfl rfl (Wp.skip (Fin.blockN (Fin.then (Wp.seq (Wp.region (As rfl rfl (WL.nil (Fin.then (Wp.ret (Fin.res (res1 rfl rfl) (As rfl rfl (WL.nil ?_)))))))))))))))))))))))))))))))))))))))
  refine Fin.then (Wp.seq (Wp.region (Mv rfl rfl (Kn (v := .bool true) rfl rfl rfl (fun _ => by kernel_rfl) (WL.nil (Fin.then (Wp.cond1 rfl rfl (Wp.seq (Wp.region (Mv rfl rfl (As rfl rfl (As rfl rfl (WL.nil (Fin.then (Wp.ret (Fin.thenR (Fin.res (res2 rfl rfl rfl) ?_)))))))))))))))))
  have H67 := H26.pick [] (by decide) rfl
  have e : node_Size p0 = (0, 130) := Eq.trans (if_pos h27) (if_neg h28)
  obtain ⟨rfl, rfl⟩ := pj2 (e.symm.trans hr)
  exact ⟨rfl, H67⟩
  refine Sk rfl rfl h27 rfl (Sk rfl rfl h27 rfl (Sk rfl rfl h27 rfl (Sk rfl rfl h27 rfl (Sk rfl rfl h27 rfl (Sk rfl rfl h27 rfl (Sk rfl rfl h27 rfl (Sk rfl rfl h27 rfl (Sk rfl rfl h27 rfl (Sk rfl rfl h27 rfl (Sk rfl rfl h27 rfl (Sk rfl rfl h27 rfl (WL.val (v := .bool false) rfl (Yl.pickF rfl h27 rfl) (As rfl rfl (WL.nil (Fin.then (Wp.cond0 rfl rfl (Wp.seq (Wp.region (Kn (v := .pointer (some ⟨g24, 0, none⟩)) rfl rfl rfl (fun _ => by kernel_rfl) (WL.val (v := .bool p0.xLeaf) rfl (Yl.load rfl (Lds.one Tryz.isAgg4 (Cls.of (H26.cls (i := 0) rfl) rfl))) (Kn (v := .bool (!p0.xLeaf)) rfl rfl rfl (fun _ => by kernel_rfl) (Mv rfl rfl (WL.valG (v := .pointer (some ⟨g24, 1, none⟩)) rfl rfl (congrArg not h27) rfl (Yl.kern rfl rfl (fun _ => by kernel_rfl)) (WL.valG (v := .slice A0x0 p0.xPairs.ls.length c0x0) rfl rfl (congrArg not h27) rfl (Yl.load rfl (Lds.one Tryz.isAgg22 (Cls.of (H26.cls (i := 0) rfl) rfl))) (WL.valG (v := .int .i64 ((p0.xPairs.ls.length : Nat) : Int)) rfl rfl (congrArg not h27) rfl (Yl.kern rfl rfl (fun _ => by kernel_rfl)) (WL.valG (v := .bool (decide (((p0.xPairs.ls.length : Nat) : Int) = 0))) rfl rfl (congrArg not h27) rfl (Yl.kern rfl rfl (fun _ => by kernel_rfl)) (WL.val (v := .bool (decide (((p0.xPairs.ls.length : Nat) : Int) = 0))) rfl (Yl.pickT rfl (congrArg not h27) rfl) (As rfl rfl (WL.nil (Fin.then ?_))))))))))))))))))))))))))))))
  by_cases h69 : ((p0.xPairs.ls.length : Nat) : Int) = 0
  refine Wp.cond1 rfl (decide_eq_true h69) (Wp.seq (Wp.region (Kn (v := .pointer (some ⟨g24, 2, none⟩)) rfl rfl rfl (fun _ => by kernel_rfl) (WL.val (v := .slice A0x1 p0.xKids.ls.length c0x1) rfl (Yl.load rfl (Lds.one Tryz.isAgg23 (Cls.of (H26.cls (i := 0) rfl) rfl))) (Kn (v := .pointer (some ⟨g24, 3, none⟩)) rfl rfl rfl (fun _ => by kernel_rfl) (WL.val (v := .slice A0x2 p0.xPivots.ls.length c0x2) rfl (Yl.load rfl (Lds.one Tryz.isAgg24 (Cls.of (H26.cls (i := 0) rfl) rfl))) (Kn (v := .pointer (some ⟨g24, 4, none⟩)) rfl rfl rfl (fun _ => by kernel_rfl) (WL.val (v := .slice A0x3 p0.xBuffers.ls.length c0x3) rfl (Yl.load rfl (Lds.one Tryz.isAgg25 (Cls.of (H26.cls (i := 0) rfl) rfl))) (Kn (v := .agg #[.slice A0x1 p0.xKids.ls.length c0x1, .slice A0x2 p0.xPivots.ls.length c0x2, .slice A0x3 p0.xBuffers.ls.length c0x3]) rfl rfl rfl (fun _ => by kernel_rfl) (Kn (v := .iface 76 (.agg #[.slice A0x1 p0.xKids.ls.length c0x1, .slice A0x2 p0.xPivots.ls.length c0x2, .slice A0x3 p0.xBuffers.ls.length c0x3])) rfl rfl rfl (fun _ => by kernel_rfl) (As rfl rfl (WL.nil (Fin.then (Wp.ret (Fin.blockR (Fin.thenR (Fin.res (res1 rfl rfl) (As rfl rfl (WL.nil (Fin.then (Wp.seq (Wp.seq (Wp.region (Mv rfl rfl ?_))))))))))))))))))))))))
  refine WL.do rfl (Do.call Tryz.call20 rfl ?_ (fun _ _ k => k))
  refine Calls.body (args := [.iface 76 (.agg #[.slice A0x1 p0.xKids.ls.length c0x1, .slice A0x2 p0.xPivots.ls.length c0x2, .slice A0x3 p0.xBuffers.ls.length c0x3])]) Tryz.func20 rfl rfl rfl ?_
  show Wp _ _ _ [(0, .iface 76 (.agg #[.slice A0x1 p0.xKids.ls.length c0x1, .slice A0x2 p0.xPivots.ls.length c0x2, .slice A0x3 p0.xBuffers.ls.length c0x3]))] _ _
  refine Wp.seq (Wp.region (As rfl rfl (WL.nil (Fin.then (Wp.seq (Wp.seq (Wp.region (Mv rfl rfl (WL.nil (Fin.then (Wp.block (Wp.seq (Wp.region (Kn (v := .tuple #[.agg #[.slice none 0 0], .bool false]) rfl rfl rfl (fun _ => by kernel_rfl) (Kn (v := .bool false) rfl rfl rfl (fun _ => by kernel_rfl) (Kn (v := .agg #[.slice none 0 0]) rfl rfl rfl (fun _ => by kernel_rfl) (WL.nil (Fin.then (Wp.cond0 rfl rfl (Wp.seq (Wp.region (Kn (v := .tuple #[.agg #[.slice A0x1 p0.xKids.ls.length c0x1, .slice A0x2 p0.xPivots.ls.length c0x2, .slice A0x3 p0.xBuffers.ls.length c0x3], .bool true]) rfl rfl rfl (fun _ => by kernel_rfl) (Kn (v := .bool true) rfl rfl rfl (fun _ => by kernel_rfl) (Kn (v := .agg #[.slice A0x1 p0.xKids.ls.length c0x1, .slice A0x2 p0.xPivots.ls.length c0x2, .slice A0x3 p0.xBuffers.ls.length c0x3]) rfl rfl rfl (fun _ => by kernel_rfl) (WL.nil (Fin.then (Wp.cond1 rfl rfl (Wp.seq (Wp.region ?_)))))))))))))))))))))))))))))
  refine WL.do rfl (Do.newP (cs := [.slice none 0 0, .slice none 0 0, .slice none 0 0]) (t := 76) H26 rfl rfl (fun _ => by kernel_rfl) ?_)
  intro g70 w71 H72
  refine WL.do0 (Do.store (vs := [.slice A0x1 p0.xKids.ls.length c0x1, .slice A0x2 p0.xPivots.ls.length c0x2, .slice A0x3 p0.xBuffers.ls.length c0x3]) (o := 0) H72 rfl rfl Tryz.sizeOf76 rfl rfl rfl rfl ?_)
  intro w73 H74
  refine WL.nil (Fin.then (Wp.seq (Wp.region (WL.val (v := .agg #[.slice A0x1 p0.xKids.ls.length c0x1, .slice A0x2 p0.xPivots.ls.length c0x2, .slice A0x3 p0.xBuffers.ls.length c0x3]) rfl (Yl.load rfl (Lds.agg (cs := [.slice A0x1 p0.xKids.ls.length c0x1, .slice A0x2 p0.xPivots.ls.length c0x2, .slice A0x3 p0.xBuffers.ls.length c0x3]) Tryz.isAgg76 Tryz.sizeOf76 ((H74.cls (i := 0) rfl).lit (k := 0) (m := 3) rfl))) ?_))))
  obtain ⟨r80, hr81⟩ : ∃ q, node_stem_check (stemT.mk (Ll.mk p0.xKids.ls) (Ll.mk p0.xPivots.ls) (Ll.mk p0.xBuffers.ls)) = q := ⟨_, rfl⟩
  obtain ⟨D75, HP76, ro77, bk78, rr79⟩ := Own.enter0 H74
  refine WL.do rfl (Do.call Tryz.call36 rfl (node_stem_check_ok _ _ (stemT.mk (Ll.mk p0.xKids.ls) (Ll.mk p0.xPivots.ls) (Ll.mk p0.xBuffers.ls)) A0x1 p0.xKids.ls.length c0x1 A0x2 p0.xPivots.ls.length c0x2 A0x3 p0.xBuffers.ls.length c0x3 d0x3 r80 HP76 rfl (ro77 _ hx0x1) (by first | exact ⟨Nat.le_of_ble_eq_true rfl, Nat.le_of_ble_eq_true rfl⟩ | omega | exact ⟨Nat.le_refl _, by omega⟩) rfl (ro77 _ hx0x2) (by first | exact ⟨Nat.le_of_ble_eq_true rfl, Nat.le_of_ble_eq_true rfl⟩ | omega | exact ⟨Nat.le_refl _, by omega⟩) hd0x3 rfl (ro77 _ hx0x3) (by first | exact ⟨Nat.le_of_ble_eq_true rfl, Nat.le_of_ble_eq_true rfl⟩ | omega | exact ⟨Nat.le_refl _, by omega⟩) (fun x9 h9 => ⟨ro77 _ (hm0x3 x9 h9).1, (hm0x3 x9 h9).2⟩) hr81) ?_)
  rintro _ w82 ⟨rfl, HQ83, hk85⟩
  have H84 := bk78 _ _ HQ83
  replace hk85 : ¬ (r80 = 0) ∨ (List.length (stemT.mk (Ll.mk p0.xKids.ls) (Ll.mk p0.xPivots.ls) (Ll.mk p0.xBuffers.ls)).xkids.ls ≤ 8 ∧ List.length (stemT.mk (Ll.mk p0.xKids.ls) (Ll.mk p0.xPivots.ls) (Ll.mk p0.xBuffers.ls)).xpivots.ls ≤ 8 ∧ List.length (stemT.mk (Ll.mk p0.xKids.ls) (Ll.mk p0.xPivots.ls) (Ll.mk p0.xBuffers.ls)).xbuffers.ls ≤ 8) := hk85
  refine As rfl rfl (WL.nil (Fin.then (Wp.ret (Fin.blockR (Fin.thenR (Fin.res (res1 rfl rfl) (As rfl rfl (WL.nil (Fin.then (Wp.seq (Wp.region (Mv rfl rfl (WL.val (v := .bool (decide (¬ (r80 = 0)))) rfl (Yl.bool (e := !(decide (r80 = 0))) (Yl.kern rfl rfl (fun _ => by kernel_rfl)) decide_not.symm) (WL.nil (Fin.then ?_)))))))))))))))
  by_cases h86 : r80 = 0
  refine Wp.cond0 rfl (decide_eq_false (not_not_intro h86)) (Wp.skip (Fin.then (Wp.seq (Wp.region (Mv rfl rfl ?_)))))
  refine WL.do rfl (Do.call Tryz.call21 rfl ?_ (fun _ _ k => k))
  refine Calls.body (args := [.iface 76 (.agg #[.slice A0x1 p0.xKids.ls.length c0x1, .slice A0x2 p0.xPivots.ls.length c0x2, .slice A0x3 p0.xBuffers.ls.length c0x3])]) Tryz.func21 rfl rfl rfl ?_
  show Wp _ _ _ [(0, .iface 76 (.agg #[.slice A0x1 p0.xKids.ls.length c0x1, .slice A0x2 p0.xPivots.ls.length c0x2, .slice A0x3 p0.xBuffers.ls.length c0x3]))] _ _
  refine Wp.seq (Wp.region (As rfl rfl (WL.nil (Fin.then (Wp.seq (Wp.seq (Wp.region (Mv rfl rfl (WL.nil (Fin.then (Wp.block (Wp.seq (Wp.region (Kn (v := .tuple #[.agg #[.slice none 0 0], .bool false]) rfl rfl rfl (fun _ => by kernel_rfl) (Kn (v := .bool false) rfl rfl rfl (fun _ => by kernel_rfl) (Kn (v := .agg #[.slice none 0 0]) rfl rfl rfl (fun _ => by kernel_rfl) (WL.nil (Fin.then (Wp.cond0 rfl rfl (Wp.seq (Wp.region (Kn (v := .tuple #[.agg #[.slice A0x1 p0.xKids.ls.length c0x1, .slice A0x2 p0.xPivots.ls.length c0x2, .slice A0x3 p0.xBuffers.ls.length c0x3], .bool true]) rfl rfl rfl (fun _ => by kernel_rfl) (Kn (v := .bool true) rfl rfl rfl (fun _ => by kernel_rfl) (Kn (v := .agg #[.slice A0x1 p0.xKids.ls.length c0x1, .slice A0x2 p0.xPivots.ls.length c0x2, .slice A0x3 p0.xBuffers.ls.length c0x3]) rfl rfl rfl (fun _ => by kernel_rfl) (WL.nil (Fin.then (Wp.cond1 rfl rfl (Wp.seq (Wp.region ?_)))))))))))))))))))))))))))))
  refine WL.do rfl (Do.newP (cs := [.slice none 0 0, .slice none 0 0, .slice none 0 0]) (t := 76) H84 rfl rfl (fun _ => by kernel_rfl) ?_)
  intro g87 w88 H89
  refine WL.do0 (Do.store (vs := [.slice A0x1 p0.xKids.ls.length c0x1, .slice A0x2 p0.xPivots.ls.length c0x2, .slice A0x3 p0.xBuffers.ls.length c0x3]) (o := 0) H89 rfl rfl Tryz.sizeOf76 rfl rfl rfl rfl ?_)
  intro w90 H91
  refine WL.nil (Fin.then (Wp.seq (Wp.region (WL.val (v := .agg #[.slice A0x1 p0.xKids.ls.length c0x1, .slice A0x2 p0.xPivots.ls.length c0x2, .slice A0x3 p0.xBuffers.ls.length c0x3]) rfl (Yl.load rfl (Lds.agg (cs := [.slice A0x1 p0.xKids.ls.length c0x1, .slice A0x2 p0.xPivots.ls.length c0x2, .slice A0x3 p0.xBuffers.ls.length c0x3]) Tryz.isAgg76 Tryz.sizeOf76 ((H91.cls (i := 0) rfl).lit (k := 0) (m := 3) rfl))) ?_))))
  obtain ⟨r97, hr98⟩ : ∃ q, node_stem_write (stemT.mk (Ll.mk p0.xKids.ls) (Ll.mk p0.xPivots.ls) (Ll.mk p0.xBuffers.ls)) = q := ⟨_, rfl⟩
  obtain ⟨D92, HP93, ro94, bk95, rr96⟩ := Own.enter0 H91
  refine WL.do rfl (Do.call Tryz.call38 rfl (node_stem_write_ok _ _ (stemT.mk (Ll.mk p0.xKids.ls) (Ll.mk p0.xPivots.ls) (Ll.mk p0.xBuffers.ls)) A0x1 p0.xKids.ls.length c0x1 A0x2 p0.xPivots.ls.length c0x2 A0x3 p0.xBuffers.ls.length c0x3 d0x3 r97 HP93 rfl (ro94 _ hx0x1) (by first | exact ⟨Nat.le_of_ble_eq_true rfl, Nat.le_of_ble_eq_true rfl⟩ | omega | exact ⟨Nat.le_refl _, by omega⟩) rfl (ro94 _ hx0x2) (by first | exact ⟨Nat.le_of_ble_eq_true rfl, Nat.le_of_ble_eq_true rfl⟩ | omega | exact ⟨Nat.le_refl _, by omega⟩) hd0x3 rfl (ro94 _ hx0x3) (by first | exact ⟨Nat.le_of_ble_eq_true rfl, Nat.le_of_ble_eq_true rfl⟩ | omega | exact ⟨Nat.le_refl _, by omega⟩) (fun x9 h9 => ⟨ro94 _ (hm0x3 x9 h9).1, (hm0x3 x9 h9).2⟩) (by exact ⟨by omega, by omega, ⟨by omega, hh0.2.1⟩, hh0.2.2⟩) hr98) ?_)
  rintro _ w99 ⟨A102, c103, rfl, HQ100, hk104⟩
  have H101 := bk95 _ _ HQ100
  have hb105 := H101.rowC (i := 0) rfl
  replace hk104 : r97.length ≤ 17592454480123 := hk104
  refine As rfl rfl (WL.nil (Fin.then (Wp.ret (Fin.blockR (Fin.thenR (Fin.res (res1 rfl rfl) (Kn (v := .int .i64 ((r97.length : Nat) : Int)) rfl rfl rfl (fun _ => by kernel_rfl) (As rfl rfl (As rfl rfl (WL.nil (Fin.then (Wp.ret (Fin.res (res2 rfl rfl rfl) ?_)))))))))))))
  have H106 := H101.pick [] (by decide) rfl
  have e : node_Size p0 = (((r97.length : Nat) : Int), 0) := Eq.trans (ifF h27) (Eq.trans (if_pos h69) (Eq.trans (bnd_of hr81) (Eq.trans (if_pos h86) (bnd_of hr98))))
  obtain ⟨rfl, rfl⟩ := pj2 (e.symm.trans hr)
  exact ⟨rfl, H106⟩
  refine Wp.cond1 rfl (decide_eq_true h86) (Wp.seq (Wp.region (Mv rfl rfl (As rfl rfl (As rfl rfl (WL.nil (Fin.then (Wp.ret (Fin.thenR (Fin.res (res2 rfl rfl rfl) ?_))))))))))
  have H107 := H84.pick [] (by decide) rfl
  have e : node_Size p0 = (0, r80) := Eq.trans (ifF h27) (Eq.trans (if_pos h69) (Eq.trans (bnd_of hr81) (if_neg h86)))
  obtain ⟨rfl, rfl⟩ := pj2 (e.symm.trans hr)
  exact ⟨rfl, H107⟩
  refine Wp.cond0 rfl (decide_eq_false h69) (Wp.skip (Fin.blockN (Fin.then (Wp.seq (Wp.region (As rfl rfl (WL.nil (Fin.then (Wp.ret (Fin.res (res1 rfl rfl) (As rfl rfl (WL.nil (Fin.then (Wp.seq (Wp.seq (Wp.region (Mv rfl rfl ?_)))))))))))))))))
  refine WL.do rfl (Do.call Tryz.call20 rfl ?_ (fun _ _ k => k))
  refine Calls.body (args := [.nilIface]) Tryz.func20 rfl rfl rfl ?_
  show Wp _ _ _ [(0, .nilIface)] _ _
  refine Wp.seq (Wp.region (As rfl rfl (WL.nil (Fin.then (Wp.seq (Wp.seq (Wp.region (Mv rfl rfl (WL.nil (Fin.then (Wp.block (Wp.seq (Wp.region (Kn (v := .tuple #[.agg #[.slice none 0 0], .bool false]) rfl rfl rfl (fun _ => by kernel_rfl) (Kn (v := .bool false) rfl rfl rfl (fun _ => by kernel_rfl) (Kn (v := .agg #[.slice none 0 0]) rfl rfl rfl (fun _ => by kernel_rfl) (WL.nil (Fin.then (Wp.cond0 rfl rfl (Wp.seq (Wp.region (Kn (v := .tuple #[.agg #[.slice none 0 0, .slice none 0 0, .slice none 0 0], .bool false]) rfl rfl rfl (fun _ => by kernel_rfl) (Kn (v := .bool false) rfl rfl rfl (fun _ => by kernel_rfl) (Kn (v := .agg #[.slice none 0 0, .slice none 0 0, .slice none 0 0]) rfl rfl rfl (fun _ => by kernel_rfl) (WL.nil (Fin.then (Wp.cond0 rfl rfl (Wp.skip (Fin.blockN (Fin.then (Wp.seq (Wp.region (As rfl rfl (WL.nil (Fin.then (Wp.ret (Fin.res (res1 rfl rfl) (As rfl rfl (WL.nil ?_)))))))))))))))))))))))))))))))))))))))
  refine Fin.then (Wp.seq (Wp.region (Mv rfl rfl (Kn (v := .bool true) rfl rfl rfl (fun _ => by kernel_rfl) (WL.nil (Fin.then (Wp.cond1 rfl rfl (Wp.seq (Wp.region (Mv rfl rfl (As rfl rfl (As rfl rfl (WL.nil (Fin.then (Wp.ret (Fin.thenR (Fin.res (res2 rfl rfl rfl) ?_)))))))))))))))))
  have H108 := H26.pick [] (by decide) rfl
  have e : node_Size p0 = (0, 130) := Eq.trans (ifF h27) (if_neg h69)
  obtain ⟨rfl, rfl⟩ := pj2 (e.symm.trans hr)
  exact ⟨rfl, H108⟩
end Go.Proofs.YtfkkipmdnjfocaaGreat
