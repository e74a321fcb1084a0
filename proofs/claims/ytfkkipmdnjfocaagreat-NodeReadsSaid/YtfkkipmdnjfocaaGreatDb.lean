/-
  node: bytes of nodes.
-/
import Derived.Test.YtfkkipmdnjfocaaGreatDe
namespace Go.Proofs.YtfkkipmdnjfocaaGreat
open Go.RowKit
set_option linter.unusedVariables false
set_option linter.unusedSectionVars false
set_option linter.unusedSimpArgs false

theorem El29 : Elem Tryz.prog 29 5 1 1 := elem_of (z := .int .u8 0) Tryz.underlying29 (by kernel_rfl) rfl (by decide)

def octet_Num_L0 : Nat → Nat → List UInt8 → Nat × (List UInt8)
  | 0, k24, l27 => default
  | q28 + 1, k24, l27 => if ((k24 : Nat) : Int) ≥ 128 then octet_Num_L0 q28 (k24 / 128) (l27 ++ [((UInt8.ofNat k24) ||| (128 : UInt8))]) else (k24, l27)

def octet_Num (p0 : Nat) : (List UInt8) :=
  bnd (octet_Num_L0 (p0 + 1) p0 ([])) fun sLrL => (sLrL.2 ++ [(UInt8.ofNat sLrL.1)])

set_option maxRecDepth 100000 in
theorem octet_Num_ok (w : World) (D : Nat → Prop) (p0 : Nat) (r0 : List UInt8) (H : Own w D w []) (hh0 : p0 ≤ 18446744073709551615) (hr : octet_Num p0 = r0) :
    Calls Tryz.prog 66 #[.int .u64 ((p0 : Nat) : Int)] w (Ret fun v w' => ∃ (B0 : Option Addr) (b0 : Nat), v = .slice B0 r0.length b0 ∧ Own w D w' [row B0 r0.length b0 (List.flatMap eB r0) 5 1] ∧ (1 ≤ r0.length ∧ r0.length ≤ 10) ∧ (p0 ≥ 128 ∨ r0.length = 1)) := by
  refine Calls.body (args := [.int .u64 ((p0 : Nat) : Int)]) Tryz.func66 rfl rfl rfl ?_
  show Wp _ _ _ [(0, .int .u64 ((p0 : Nat) : Int))] _ _
  refine Wp.seq (Wp.region (As rfl rfl (WL.nil (Fin.then (Wp.seq (Wp.region ?_))))))
  refine WL.do rfl (Do.makeC (m := 10) (size := 1) (bytes := 1) (z := .int .u8 0) Tryz.underlying29 (by kernel_rfl) H rfl rfl (by omega) (by unfold maxLen; omega) ?_)
  intro A21 w22 H23
  refine As rfl rfl (WL.nil (Fin.then (Wp.seq (Wp.block ?_))))
  have H30 := H23.pick [0] (by decide) rfl
  refine Wp.loop (ι := Nat × (Option Addr) × Nat × (List UInt8) × Nat) (fun i => [(0, .int .u64 ((i.1 : Nat) : Int)), (3, .slice i.2.1 i.2.2.2.1.length i.2.2.1), (2, .slice none 0 0)]) (fun (i : Nat × (Option Addr) × Nat × (List UInt8) × Nat) w' => Own w D w' [row i.2.1 i.2.2.2.1.length i.2.2.1 (List.flatMap eB i.2.2.2.1) 5 1] ∧ (NumInv i.2.2.2.1.length i.1 ∧ i.2.2.2.1.length ≤ 9 ∧ (p0 ≥ 128 ∨ (i.2.2.2.1.length = 0 ∧ i.1 = p0)) ∧ i.1 < i.2.2.2.2 ∧ octet_Num_L0 (p0 + 1) p0 ([]) = octet_Num_L0 i.2.2.2.2 i.1 i.2.2.2.1)) (fun i => i.2.2.2.2) (p0, A21, 10, [], p0 + 1) ⟨rfl, rfl, rfl, trivial⟩ ⟨H30, (show NumInv (0) p0 ∧ 0 ≤ 9 ∧ (p0 ≥ 128 ∨ (0 = 0 ∧ p0 = p0)) ∧ p0 < (p0 + 1) ∧ octet_Num_L0 (p0 + 1) p0 ([]) = octet_Num_L0 (p0 + 1) p0 ([]) from ⟨by first | exact NumInv.zero hh0 | exact NumInv.step (by assumption) (by simp only [List.length_append, List.length_cons, List.length_nil]), by first | exact Nat.zero_le _ | (have q9 := NumInv.le (by assumption) (by omega); simp only [List.length_append, List.length_cons, List.length_nil]; omega), by omega, by omega, rfl⟩)⟩ ?_
  rintro ⟨k24, A25, c26, l27, f29⟩ w31 ⟨H32, hf33⟩
  show Wp _ _ _ [(0, .int .u64 ((k24 : Nat) : Int)), (3, .slice A25 l27.length c26), (2, .slice none 0 0)] _ _
  replace hf33 : NumInv l27.length k24 ∧ l27.length ≤ 9 ∧ (p0 ≥ 128 ∨ (l27.length = 0 ∧ k24 = p0)) ∧ k24 < f29 ∧ octet_Num_L0 (p0 + 1) p0 ([]) = octet_Num_L0 f29 k24 l27 := hf33
  obtain ⟨hi35, hi36, hi37, hi38, hq34⟩ := hf33
  obtain ⟨f39, hf40⟩ : ∃ q, f29 = q + 1 := ⟨f29 - 1, by omega⟩
  subst hf40
  refine Wp.seq (Wp.seq (Wp.region (Mv rfl rfl (Kn (v := .bool (decide (((k24 : Nat) : Int) ≥ 128))) rfl rfl rfl (fun _ => by kernel_rfl) (WL.nil (Fin.then ?_))))))
  by_cases h41 : ((k24 : Nat) : Int) ≥ 128
  refine Wp.cond1 rfl (decide_eq_true h41) (Wp.skip (Fin.then (Wp.block (Wp.seq (Wp.region (Mv rfl rfl (Mv rfl rfl (WL.val (v := .int .u8 (((UInt8.ofNat k24).toNat : Nat) : Int)) rfl (Yl.int (e := IntKind.u8.wrap ((k24 : Nat) : Int)) (Yl.kern rfl rfl (fun _ => by kernel_rfl)) (u8_wrap _)) (WL.val (v := .int .u8 ((((UInt8.ofNat k24) ||| (128 : UInt8)).toNat : Nat) : Int)) rfl (Yl.int (e := IntKind.u8.wrap (((BitVec.ofInt 8 (((UInt8.ofNat k24).toNat : Nat) : Int) ||| BitVec.ofInt 8 128).toNat : Nat) : Int)) (Yl.kern rfl rfl (fun _ => by kernel_rfl)) (u8_or (UInt8.ofNat k24) (128 : UInt8))) ?_)))))))))
  refine WL.do rfl (Do.newRow (cs := [.int .u8 ((((UInt8.ofNat k24) ||| (128 : UInt8)).toNat : Nat) : Int)]) (t := 5) (sz := 1) (m := 1) H32 rfl rfl (fun _ => by kernel_rfl) rfl (by decide) ?_)
  intro A42 w43 H44
  replace H44 : Own w D w43 [row A42 1 1 (List.flatMap eB ([((UInt8.ofNat k24) ||| (128 : UInt8))])) 5 1, row A25 l27.length c26 (List.flatMap eB l27) 5 1] := H44
  have H45 := H44.pick [1, 0] (by decide) rfl
  refine WL.do rfl (Do.appendW (k := l27.length) (m := 1) (El29) H45 rfl rfl (src_of Tryz.underlying29 (H45.rds (i := 1) rfl) (flat_one eB_one ([((UInt8.ofNat k24) ||| (128 : UInt8))]))) rfl (by omega) (s := List.length (l27 ++ [((UInt8.ofNat k24) ||| (128 : UInt8))])) (by first | omega | (simp only [List.length_append, List.length_cons, List.length_nil] <;> omega)) (List.flatMap_append).symm ?_)
  intro A46 c47 w48 H49
  have hl50 : List.length (l27 ++ [((UInt8.ofNat k24) ||| (128 : UInt8))]) = l27.length + 1 := by simp only [List.length_append, List.length_cons, List.length_nil]
  refine As rfl rfl (WL.nil (Fin.then (Wp.region (Mv rfl rfl (WL.val (v := .int .u64 ((k24 / 128 : Nat) : Int)) rfl (Yl.int (e := Int.fdiv ((k24 : Nat) : Int) 128) (Yl.kern rfl rfl (fun _ => by kernel_rfl)) (shr_nat _ 7 _ (by decide))) (As rfl rfl (WL.nil (Fin.blockN ?_))))))))
  have H51 := H49.pick [0] (by decide) rfl
  exact Fin.round (k24 / 128, A46, c47, (l27 ++ [((UInt8.ofNat k24) ||| (128 : UInt8))]), f39) ⟨rfl, rfl, rfl, trivial⟩ ⟨H51, (show NumInv (List.length (l27 ++ [((UInt8.ofNat k24) ||| (128 : UInt8))])) (k24 / 128) ∧ List.length (l27 ++ [((UInt8.ofNat k24) ||| (128 : UInt8))]) ≤ 9 ∧ (p0 ≥ 128 ∨ (List.length (l27 ++ [((UInt8.ofNat k24) ||| (128 : UInt8))]) = 0 ∧ (k24 / 128) = p0)) ∧ (k24 / 128) < f39 ∧ octet_Num_L0 (p0 + 1) p0 ([]) = octet_Num_L0 f39 (k24 / 128) (l27 ++ [((UInt8.ofNat k24) ||| (128 : UInt8))]) from ⟨by first | exact NumInv.zero hh0 | exact NumInv.step (by assumption) (by simp only [List.length_append, List.length_cons, List.length_nil]), by first | exact Nat.zero_le _ | (have q9 := NumInv.le (by assumption) (by omega); simp only [List.length_append, List.length_cons, List.length_nil]; omega), by omega, by omega, Eq.trans (hq34) (if_pos h41)⟩)⟩ (by show f39 < f39 + 1; omega)
  refine Wp.cond0 rfl (decide_eq_false h41) (Wp.exit (Fin.thenX ?_))
  have hL52 : octet_Num_L0 (p0 + 1) p0 ([]) = (k24, l27) := Eq.trans (hq34) (if_neg h41)
  refine Fin.thenX (Fin.blockX (Fin.then (Wp.seq (Wp.region (Mv rfl rfl (Mv rfl rfl (WL.val (v := .int .u8 (((UInt8.ofNat k24).toNat : Nat) : Int)) rfl (Yl.int (e := IntKind.u8.wrap ((k24 : Nat) : Int)) (Yl.kern rfl rfl (fun _ => by kernel_rfl)) (u8_wrap _)) ?_)))))))
  refine WL.do rfl (Do.newRow (cs := [.int .u8 (((UInt8.ofNat k24).toNat : Nat) : Int)]) (t := 5) (sz := 1) (m := 1) H32 rfl rfl (fun _ => by kernel_rfl) rfl (by decide) ?_)
  intro A53 w54 H55
  replace H55 : Own w D w54 [row A53 1 1 (List.flatMap eB ([(UInt8.ofNat k24)])) 5 1, row A25 l27.length c26 (List.flatMap eB l27) 5 1] := H55
  have H56 := H55.pick [1, 0] (by decide) rfl
  refine WL.do rfl (Do.appendW (k := l27.length) (m := 1) (El29) H56 rfl rfl (src_of Tryz.underlying29 (H56.rds (i := 1) rfl) (flat_one eB_one ([(UInt8.ofNat k24)]))) rfl (by omega) (s := List.length (l27 ++ [(UInt8.ofNat k24)])) (by first | omega | (simp only [List.length_append, List.length_cons, List.length_nil] <;> omega)) (List.flatMap_append).symm ?_)
  intro A57 c58 w59 H60
  have hl61 : List.length (l27 ++ [(UInt8.ofNat k24)]) = l27.length + 1 := by simp only [List.length_append, List.length_cons, List.length_nil]
  refine As rfl rfl (WL.nil (Fin.then (Wp.ret (Fin.res (res1 rfl rfl) ?_))))
  have H62 := H60.pick [0] (by decide) rfl
  have e : octet_Num p0 = (l27 ++ [(UInt8.ofNat k24)]) := bnd_of hL52
  obtain rfl := e.symm.trans hr
  exact ⟨A57, c58, rfl, H62, (by first | omega | (simp only [List.length_cons, List.length_nil, List.length_append]; omega)), (by first | omega | (simp only [List.length_cons, List.length_nil, List.length_append]; omega))⟩

def octet_Text (p0 : List UInt8) : (List UInt8) :=
  bnd (octet_Num p0.length) fun yr26 => (yr26 ++ p0)

set_option maxRecDepth 100000 in
theorem octet_Text_ok (w : World) (D : Nat → Prop) (p0 : List UInt8) (r0 : List UInt8) (H : Own w D w []) (hh0 : p0.length ≤ 140737488351232) (hr : octet_Text p0 = r0) :
    Calls Tryz.prog 83 #[.string ⟨List.toArray p0⟩] w (Ret fun v w' => ∃ (B0 : Option Addr) (b0 : Nat), v = .slice B0 r0.length b0 ∧ Own w D w' [row B0 r0.length b0 (List.flatMap eB r0) 5 1] ∧ (r0.length ≤ p0.length + 10) ∧ (p0.length ≥ 128 ∨ r0.length = p0.length + 1)) := by
  refine Calls.body (args := [.string ⟨List.toArray p0⟩]) Tryz.func83 rfl rfl rfl ?_
  show Wp _ _ _ [(0, .string ⟨List.toArray p0⟩)] _ _
  refine Wp.seq (Wp.region (As rfl rfl (WL.nil (Fin.then (Wp.seq (Wp.region (Mv rfl rfl (Kn (v := .int .i64 ((p0.length : Nat) : Int)) rfl rfl rfl (fun _ => by kernel_rfl) (WL.val (v := .int .u64 ((p0.length : Nat) : Int)) rfl (Yl.int (e := IntKind.u64.wrap ((p0.length : Nat) : Int)) (Yl.kern rfl rfl (fun _ => by kernel_rfl)) (IntWalk.u64_in _ (by omega))) ?_)))))))))
  obtain ⟨r26, hr27⟩ : ∃ q, octet_Num p0.length = q := ⟨_, rfl⟩
  obtain ⟨D21, HP22, ro23, bk24, rr25⟩ := Own.enter0 H
  refine WL.do rfl (Do.call Tryz.call66 rfl (octet_Num_ok _ _ p0.length r26 HP22 (by omega) hr27) ?_)
  rintro _ w28 ⟨A31, c32, rfl, HQ29, hk33, hk34⟩
  have H30 := bk24 _ _ HQ29
  have hb35 := H30.rowC (i := 0) rfl
  replace hk33 : 1 ≤ r26.length ∧ r26.length ≤ 10 := hk33
  replace hk34 : p0.length ≥ 128 ∨ r26.length = 1 := hk34
  refine Mv rfl rfl ?_
  refine WL.do rfl (Do.appendW (k := r26.length) (m := p0.length) (El29) H30 rfl rfl (src_str Tryz.underlying9 rfl) rfl (by omega) (s := List.length (r26 ++ p0)) (by first | omega | (simp only [List.length_append, List.length_cons, List.length_nil] <;> omega)) (List.flatMap_append).symm ?_)
  intro A36 c37 w38 H39
  have hl40 : List.length (r26 ++ p0) = r26.length + p0.length := by simp only [List.length_append, List.length_cons, List.length_nil]
  refine As rfl rfl (WL.nil (Fin.then (Wp.ret (Fin.res (res1 rfl rfl) ?_))))
  have H41 := H39.pick [0] (by decide) rfl
  have e : octet_Text p0 = (r26 ++ p0) := bnd_of hr27
  obtain rfl := e.symm.trans hr
  exact ⟨A36, c37, rfl, H41, (by first | omega | (simp only [List.length_cons, List.length_nil, List.length_append]; omega)), (by first | omega | (simp only [List.length_cons, List.length_nil, List.length_append]; omega))⟩

def node_putNum (l0 : List UInt8) (p1 : Int) : (List UInt8) :=
  bnd (octet_Num (Int.toNat (IntKind.u64.wrap p1))) fun yr27 => (l0 ++ yr27)

set_option maxRecDepth 100000 in
theorem node_putNum_ok (w : World) (D : Nat → Prop) (A0 : Option Addr) (n0 c0 : Nat) (l0 : List UInt8) (p1 : Int) (r0 : List UInt8) (H : Own w D w [row A0 n0 c0 (List.flatMap eB l0) 5 1]) (hn0 : n0 = l0.length) (hl0 : l0.length * 1 ≤ 211106232532992) (hh0 : l0.length ≤ 140737488351232) (hr : node_putNum l0 p1 = r0) :
    Calls Tryz.prog 64 #[.slice A0 n0 c0, .int .i64 p1] w (Ret fun v w' => ∃ (B0 : Option Addr) (b0 : Nat), v = .slice B0 r0.length b0 ∧ Own w D w' [row B0 r0.length b0 (List.flatMap eB r0) 5 1] ∧ (r0.length ≤ l0.length + 10)) := by
  subst hn0
  have hc0 := H.rowC (i := 0) rfl
  refine Calls.body (args := [.slice A0 l0.length c0, .int .i64 p1]) Tryz.func64 rfl rfl rfl ?_
  show Wp _ _ _ [(0, .slice A0 l0.length c0), (1, .int .i64 p1)] _ _
  refine Wp.seq (Wp.region (As rfl rfl (WL.nil (Fin.then (Wp.seq (Wp.region (Mv rfl rfl (Mv rfl rfl ?_))))))))
  have hz21 : Int.toNat (IntKind.u64.wrap p1) ≤ 18446744073709551615 := wrapN_u64 _
  refine WL.val (v := .int .u64 ((Int.toNat (IntKind.u64.wrap p1) : Nat) : Int)) rfl (Yl.int (e := IntKind.u64.wrap p1) (Yl.kern rfl rfl (fun _ => by kernel_rfl)) (wrap_nat_u64 _)) ?_
  obtain ⟨r27, hr28⟩ : ∃ q, octet_Num (Int.toNat (IntKind.u64.wrap p1)) = q := ⟨_, rfl⟩
  obtain ⟨D22, HP23, ro24, bk25, rr26⟩ := Own.enter0 H
  refine WL.do rfl (Do.call Tryz.call66 rfl (octet_Num_ok _ _ (Int.toNat (IntKind.u64.wrap p1)) r27 HP23 (by omega) hr28) ?_)
  rintro _ w29 ⟨A32, c33, rfl, HQ30, hk34, hk35⟩
  have H31 := bk25 _ _ HQ30
  have hb36 := H31.rowC (i := 0) rfl
  replace hk34 : 1 ≤ r27.length ∧ r27.length ≤ 10 := hk34
  replace hk35 : (Int.toNat (IntKind.u64.wrap p1)) ≥ 128 ∨ r27.length = 1 := hk35
  have H37 := H31.pick [1, 0] (by decide) rfl
  refine WL.do rfl (Do.appendW (k := l0.length) (m := r27.length) (El29) H37 rfl rfl (src_of Tryz.underlying29 (H37.rds (i := 1) rfl) (flat_one eB_one r27)) rfl (by omega) (s := List.length (l0 ++ r27)) (by first | omega | (simp only [List.length_append, List.length_cons, List.length_nil] <;> omega)) (List.flatMap_append).symm ?_)
  intro A38 c39 w40 H41
  have hl42 : List.length (l0 ++ r27) = l0.length + r27.length := by simp only [List.length_append, List.length_cons, List.length_nil]
  refine As rfl rfl (WL.nil (Fin.then (Wp.ret (Fin.res (res1 rfl rfl) ?_))))
  have H43 := H41.pick [0] (by decide) rfl
  have e : node_putNum l0 p1 = (l0 ++ r27) := bnd_of hr28
  obtain rfl := e.symm.trans hr
  exact ⟨A38, c39, rfl, H43, (by first | omega | (simp only [List.length_cons, List.length_nil, List.length_append]; omega))⟩

def node_putText (l0 : List UInt8) (p1 : List UInt8) : (List UInt8) :=
  bnd (octet_Text p1) fun yr26 => (l0 ++ yr26)

set_option maxRecDepth 100000 in
theorem node_putText_ok (w : World) (D : Nat → Prop) (A0 : Option Addr) (n0 c0 : Nat) (l0 : List UInt8) (p1 : List UInt8) (r0 : List UInt8) (H : Own w D w [row A0 n0 c0 (List.flatMap eB l0) 5 1]) (hn0 : n0 = l0.length) (hl0 : l0.length * 1 ≤ 211106232532992) (hh0 : l0.length ≤ 140737488351232 ∧ p1.length ≤ 1048576) (hr : node_putText l0 p1 = r0) :
    Calls Tryz.prog 65 #[.slice A0 n0 c0, .string ⟨List.toArray p1⟩] w (Ret fun v w' => ∃ (B0 : Option Addr) (b0 : Nat), v = .slice B0 r0.length b0 ∧ Own w D w' [row B0 r0.length b0 (List.flatMap eB r0) 5 1] ∧ (r0.length ≤ l0.length + p1.length + 10)) := by
  subst hn0
  have hc0 := H.rowC (i := 0) rfl
  refine Calls.body (args := [.slice A0 l0.length c0, .string ⟨List.toArray p1⟩]) Tryz.func65 rfl rfl rfl ?_
  show Wp _ _ _ [(0, .slice A0 l0.length c0), (1, .string ⟨List.toArray p1⟩)] _ _
  refine Wp.seq (Wp.region (As rfl rfl (WL.nil (Fin.then (Wp.seq (Wp.region (Mv rfl rfl (Mv rfl rfl ?_))))))))
  obtain ⟨r26, hr27⟩ : ∃ q, octet_Text p1 = q := ⟨_, rfl⟩
  obtain ⟨D21, HP22, ro23, bk24, rr25⟩ := Own.enter0 H
  refine WL.do rfl (Do.call Tryz.call83 rfl (octet_Text_ok _ _ p1 r26 HP22 (by omega) hr27) ?_)
  rintro _ w28 ⟨A31, c32, rfl, HQ29, hk33, hk34⟩
  have H30 := bk24 _ _ HQ29
  have hb35 := H30.rowC (i := 0) rfl
  replace hk33 : r26.length ≤ p1.length + 10 := hk33
  replace hk34 : p1.length ≥ 128 ∨ r26.length = p1.length + 1 := hk34
  have H36 := H30.pick [1, 0] (by decide) rfl
  refine WL.do rfl (Do.appendW (k := l0.length) (m := r26.length) (El29) H36 rfl rfl (src_of Tryz.underlying29 (H36.rds (i := 1) rfl) (flat_one eB_one r26)) rfl (by omega) (s := List.length (l0 ++ r26)) (by first | omega | (simp only [List.length_append, List.length_cons, List.length_nil] <;> omega)) (List.flatMap_append).symm ?_)
  intro A37 c38 w39 H40
  have hl41 : List.length (l0 ++ r26) = l0.length + r26.length := by simp only [List.length_append, List.length_cons, List.length_nil]
  refine As rfl rfl (WL.nil (Fin.then (Wp.ret (Fin.res (res1 rfl rfl) ?_))))
  have H42 := H40.pick [0] (by decide) rfl
  have e : node_putText l0 p1 = (l0 ++ r26) := bnd_of hr27
  obtain rfl := e.symm.trans hr
  exact ⟨A37, c38, rfl, H42, (by first | omega | (simp only [List.length_cons, List.length_nil, List.length_append]; omega))⟩

def node_putOp (l0 : List UInt8) (p1 : OpD) : (List UInt8) :=
  if p1.xKind = 2 then bnd (node_putText (l0 ++ [(u8I p1.xKind)]) p1.xKey) fun yr44 => bnd (node_putText yr44 p1.xValue) fun yr60 => yr60 else if p1.xKind = 3 then bnd (node_putText (l0 ++ [(u8I p1.xKind)]) p1.xKey) fun yr77 => yr77 else bnd (node_putText (l0 ++ [(u8I p1.xKind)]) p1.xLo) fun yr96 => bnd (node_putText yr96 p1.xHi) fun yr112 => yr112

set_option maxRecDepth 100000 in
theorem node_putOp_ok (w : World) (D : Nat → Prop) (A0 : Option Addr) (n0 c0 : Nat) (l0 : List UInt8) (p1 : OpD) (r0 : List UInt8) (H : Own w D w [row A0 n0 c0 (List.flatMap eB l0) 5 1]) (hn0 : n0 = l0.length) (hl0 : l0.length * 1 ≤ 211106232532992) (hh0 : l0.length ≤ 120737488351232 ∧ p1.xKey.length ≤ 1048576 ∧ p1.xValue.length ≤ 1048576 ∧ p1.xLo.length ≤ 1048576 ∧ p1.xHi.length ≤ 1048576) (hr : node_putOp l0 p1 = r0) :
    Calls Tryz.prog 67 #[.slice A0 n0 c0, .agg (OpD.cells p1).toArray] w (Ret fun v w' => ∃ (B0 : Option Addr) (b0 : Nat), v = .slice B0 r0.length b0 ∧ Own w D w' [row B0 r0.length b0 (List.flatMap eB r0) 5 1] ∧ (r0.length ≤ l0.length + 2097173)) := by
  subst hn0
  have hc0 := H.rowC (i := 0) rfl
  refine Calls.body (args := [.slice A0 l0.length c0, .agg (OpD.cells p1).toArray]) Tryz.func67 rfl rfl rfl ?_
  show Wp _ _ _ [(0, .slice A0 l0.length c0), (1, .agg (OpD.cells p1).toArray)] _ _
  refine Wp.seq (Wp.region ?_)
  refine WL.do rfl (Do.newP (cs := (OpD.cells p1)) (t := 59) H rfl rfl (fun _ => by kernel_rfl) ?_)
  intro g21 w22 H23
  refine As rfl rfl (WL.nil (Fin.then (Wp.seq (Wp.region (Mv rfl rfl (Kn (v := .pointer (some ⟨g21, 0, none⟩)) rfl rfl rfl (fun _ => by kernel_rfl) (WL.val (v := .int .i64 p1.xKind) rfl (Yl.load rfl (Lds.one Tryz.isAgg3 (Cls.of (H23.cls (i := 0) rfl) rfl))) (WL.val (v := .int .u8 (((u8I p1.xKind).toNat : Nat) : Int)) rfl (Yl.int (e := IntKind.u8.wrap p1.xKind) (Yl.kern rfl rfl (fun _ => by kernel_rfl)) (u8I_wrap _)) ?_))))))))
  refine WL.do rfl (Do.newRow (cs := [.int .u8 (((u8I p1.xKind).toNat : Nat) : Int)]) (t := 5) (sz := 1) (m := 1) H23 rfl rfl (fun _ => by kernel_rfl) rfl (by decide) ?_)
  intro A24 w25 H26
  replace H26 : Own w D w25 [row A24 1 1 (List.flatMap eB ([(u8I p1.xKind)])) 5 1, blk g21 (OpD.cells p1) 59, row A0 l0.length c0 (List.flatMap eB l0) 5 1] := H26
  have H27 := H26.pick [2, 0, 1] (by decide) rfl
  refine WL.do rfl (Do.appendW (k := l0.length) (m := 1) (El29) H27 rfl rfl (src_of Tryz.underlying29 (H27.rds (i := 1) rfl) (flat_one eB_one ([(u8I p1.xKind)]))) rfl (by omega) (s := List.length (l0 ++ [(u8I p1.xKind)])) (by first | omega | (simp only [List.length_append, List.length_cons, List.length_nil] <;> omega)) (List.flatMap_append).symm ?_)
  intro A28 c29 w30 H31
  have hl32 : List.length (l0 ++ [(u8I p1.xKind)]) = l0.length + 1 := by simp only [List.length_append, List.length_cons, List.length_nil]
  refine As rfl rfl (WL.nil (Fin.then (Wp.seq (Wp.seq ?_))))
  have H33 := H31.pick [0, 2] (by decide) rfl
  refine Wp.region (Kn (v := .pointer (some ⟨g21, 0, none⟩)) rfl rfl rfl (fun _ => by kernel_rfl) (WL.val (v := .int .i64 p1.xKind) rfl (Yl.load rfl (Lds.one Tryz.isAgg3 (Cls.of (H33.cls (i := 1) rfl) rfl))) (WL.nil (Fin.then (Wp.block (Wp.seq (Wp.region (Kn (v := .bool (decide (p1.xKind = 2))) rfl rfl rfl (fun _ => by kernel_rfl) (As rfl rfl (WL.nil (Fin.then ?_)))))))))))
  by_cases h34 : p1.xKind = 2
  refine Wp.cond1 rfl (decide_eq_true h34) (Wp.seq ?_)
  have H35 := H33.pick [1, 0] (by decide) rfl
  have H37 := H35.drew
  refine Wp.drawnX [] (fun W => ∃ L', Own w D W ([blk g21 (OpD.cells p1) 59] ++ L')) (by kernel_rfl) (by kernel_rfl) (NoP.then (NoP.block (NoP.then NoP.base))) ⟨_, H37⟩ ?_
  revert H37
  generalize World.drew w30 = w36
  intro H37
  refine GX.take (v := .slice A28 (List.length (l0 ++ [(u8I p1.xKind)])) c29) (rs := []) 0 rfl (by kernel_rfl) (fun _ _ => Yl.move rfl) (GX.take (v := .pointer (some ⟨g21, 1, none⟩)) (rs := []) 1 rfl (by kernel_rfl) (fun _ _ => Yl.kern rfl rfl (fun _ => by kernel_rfl)) (GX.take (v := .string ⟨List.toArray p1.xKey⟩) (rs := []) 2 rfl (by kernel_rfl) (fun _ ⟨_, H9⟩ => Yl.load rfl (Lds.one Tryz.isAgg9 (Cls.of (H9.cls (i := 0) rfl) rfl))) (GX.take (v := .pointer (some ⟨g21, 2, none⟩)) (rs := []) 4 rfl (by kernel_rfl) (fun _ _ => Yl.kern rfl rfl (fun _ => by kernel_rfl)) (GX.take (v := .string ⟨List.toArray p1.xValue⟩) (rs := []) 5 rfl (by kernel_rfl) (fun _ ⟨_, H9⟩ => Yl.load rfl (Lds.one Tryz.isAgg9 (Cls.of (H9.cls (i := 0) rfl) rfl))) ?_))))
  have H38 := H37.pick [1, 0] (by decide) rfl
  obtain ⟨r44, hr45⟩ : ∃ q, node_putText (l0 ++ [(u8I p1.xKind)]) p1.xKey = q := ⟨_, rfl⟩
  obtain ⟨D39, HP40, ro41, bk42, rr43⟩ := Own.enter1 H38
  refine GX.do 3 rfl (by kernel_rfl) (Do.call Tryz.call65 rfl (node_putText_ok _ _ A28 (List.length (l0 ++ [(u8I p1.xKind)])) c29 (l0 ++ [(u8I p1.xKind)]) p1.xKey r44 HP40 rfl (by first | omega | (simp only [List.length_append, List.length_cons, List.length_nil, List.length_take, List.length_drop, List.length_set]; omega)) (by first | omega | (simp only [List.length_cons, List.length_nil, List.length_append]; omega)) hr45) ?_)
  rintro _ w46 ⟨A49, c50, rfl, HQ47, hk51⟩
  have H48 := bk42 _ _ HQ47
  have hb52 := H48.rowC (i := 0) rfl
  replace hk51 : r44.length ≤ List.length (l0 ++ [(u8I p1.xKind)]) + p1.xKey.length + 10 := hk51
  have H53 := H48.pick [1, 0] (by decide) rfl
  refine ⟨.inr ⟨_, H53⟩, ?_⟩
  have H54 := H53.pick [1, 0] (by decide) rfl
  obtain ⟨r60, hr61⟩ : ∃ q, node_putText r44 p1.xValue = q := ⟨_, rfl⟩
  obtain ⟨D55, HP56, ro57, bk58, rr59⟩ := Own.enter1 H54
  refine GX.do 6 rfl (by kernel_rfl) (Do.call Tryz.call65 rfl (node_putText_ok _ _ A49 r44.length c50 r44 p1.xValue r60 HP56 rfl (by omega) (by first | omega | (simp only [List.length_cons, List.length_nil, List.length_append]; omega)) hr61) ?_)
  rintro _ w62 ⟨A65, c66, rfl, HQ63, hk67⟩
  have H64 := bk58 _ _ HQ63
  have hb68 := H64.rowC (i := 0) rfl
  replace hk67 : r60.length ≤ r44.length + p1.xValue.length + 10 := hk67
  have H69 := H64.pick [1, 0] (by decide) rfl
  refine ⟨.inr ⟨_, H69⟩, ?_⟩
  refine GX.take (v := .slice A65 r60.length c66) (rs := []) 7 rfl (by kernel_rfl) (fun _ _ => Yl.assign rfl) (GX.done (by kernel_rfl) (Fin.then (Wp.ret (Fin.blockR (Fin.thenR (Fin.res (res1 rfl rfl) ?_))))))
  have H70 := H69.pick [1] (by decide) rfl
  have e : node_putOp l0 p1 = r60 := Eq.trans (if_pos h34) (Eq.trans (bnd_of hr45) (bnd_of hr61))
  obtain rfl := e.symm.trans hr
  exact ⟨A65, c66, rfl, H70, (by first | omega | (simp only [List.length_cons, List.length_nil, List.length_append]; omega))⟩
  refine Wp.cond0 rfl (decide_eq_false h34) (Wp.seq (Wp.region (Kn (v := .bool (decide (p1.xKind = 3))) rfl rfl rfl (fun _ => by kernel_rfl) (As rfl rfl (WL.nil (Fin.then ?_))))))
  by_cases h71 : p1.xKind = 3
  refine Wp.cond1 rfl (decide_eq_true h71) (Wp.seq (Wp.region (Mv rfl rfl (Kn (v := .pointer (some ⟨g21, 1, none⟩)) rfl rfl rfl (fun _ => by kernel_rfl) (WL.val (v := .string ⟨List.toArray p1.xKey⟩) rfl (Yl.load rfl (Lds.one Tryz.isAgg9 (Cls.of (H33.cls (i := 1) rfl) rfl))) ?_)))))
  obtain ⟨r77, hr78⟩ : ∃ q, node_putText (l0 ++ [(u8I p1.xKind)]) p1.xKey = q := ⟨_, rfl⟩
  obtain ⟨D72, HP73, ro74, bk75, rr76⟩ := Own.enter1 H33
  refine WL.do rfl (Do.call Tryz.call65 rfl (node_putText_ok _ _ A28 (List.length (l0 ++ [(u8I p1.xKind)])) c29 (l0 ++ [(u8I p1.xKind)]) p1.xKey r77 HP73 rfl (by first | omega | (simp only [List.length_append, List.length_cons, List.length_nil, List.length_take, List.length_drop, List.length_set]; omega)) (by first | omega | (simp only [List.length_cons, List.length_nil, List.length_append]; omega)) hr78) ?_)
  rintro _ w79 ⟨A82, c83, rfl, HQ80, hk84⟩
  have H81 := bk75 _ _ HQ80
  have hb85 := H81.rowC (i := 0) rfl
  replace hk84 : r77.length ≤ List.length (l0 ++ [(u8I p1.xKind)]) + p1.xKey.length + 10 := hk84
  refine As rfl rfl (WL.nil (Fin.then (Wp.ret (Fin.blockR (Fin.thenR (Fin.res (res1 rfl rfl) ?_))))))
  have H86 := H81.pick [0] (by decide) rfl
  have e : node_putOp l0 p1 = r77 := Eq.trans (if_neg h34) (Eq.trans (if_pos h71) (bnd_of hr78))
  obtain rfl := e.symm.trans hr
  exact ⟨A82, c83, rfl, H86, (by first | omega | (simp only [List.length_cons, List.length_nil, List.length_append]; omega))⟩
  refine Wp.cond0 rfl (decide_eq_false h71) (Wp.skip (Fin.blockN (Fin.then (Wp.seq ?_))))
  have H87 := H33.pick [1, 0] (by decide) rfl
  have H89 := H87.drew
  refine Wp.drawnX [] (fun W => ∃ L', Own w D W ([blk g21 (OpD.cells p1) 59] ++ L')) (by kernel_rfl) (by kernel_rfl) (NoP.then NoP.base) ⟨_, H89⟩ ?_
  revert H89
  generalize World.drew w30 = w88
  intro H89
  refine GX.take (v := .slice A28 (List.length (l0 ++ [(u8I p1.xKind)])) c29) (rs := []) 0 rfl (by kernel_rfl) (fun _ _ => Yl.move rfl) (GX.take (v := .pointer (some ⟨g21, 3, none⟩)) (rs := []) 1 rfl (by kernel_rfl) (fun _ _ => Yl.kern rfl rfl (fun _ => by kernel_rfl)) (GX.take (v := .string ⟨List.toArray p1.xLo⟩) (rs := []) 2 rfl (by kernel_rfl) (fun _ ⟨_, H9⟩ => Yl.load rfl (Lds.one Tryz.isAgg9 (Cls.of (H9.cls (i := 0) rfl) rfl))) (GX.take (v := .pointer (some ⟨g21, 4, none⟩)) (rs := []) 4 rfl (by kernel_rfl) (fun _ _ => Yl.kern rfl rfl (fun _ => by kernel_rfl)) (GX.take (v := .string ⟨List.toArray p1.xHi⟩) (rs := []) 5 rfl (by kernel_rfl) (fun _ ⟨_, H9⟩ => Yl.load rfl (Lds.one Tryz.isAgg9 (Cls.of (H9.cls (i := 0) rfl) rfl))) ?_))))
  have H90 := H89.pick [1, 0] (by decide) rfl
  obtain ⟨r96, hr97⟩ : ∃ q, node_putText (l0 ++ [(u8I p1.xKind)]) p1.xLo = q := ⟨_, rfl⟩
  obtain ⟨D91, HP92, ro93, bk94, rr95⟩ := Own.enter1 H90
  refine GX.do 3 rfl (by kernel_rfl) (Do.call Tryz.call65 rfl (node_putText_ok _ _ A28 (List.length (l0 ++ [(u8I p1.xKind)])) c29 (l0 ++ [(u8I p1.xKind)]) p1.xLo r96 HP92 rfl (by first | omega | (simp only [List.length_append, List.length_cons, List.length_nil, List.length_take, List.length_drop, List.length_set]; omega)) (by first | omega | (simp only [List.length_cons, List.length_nil, List.length_append]; omega)) hr97) ?_)
  rintro _ w98 ⟨A101, c102, rfl, HQ99, hk103⟩
  have H100 := bk94 _ _ HQ99
  have hb104 := H100.rowC (i := 0) rfl
  replace hk103 : r96.length ≤ List.length (l0 ++ [(u8I p1.xKind)]) + p1.xLo.length + 10 := hk103
  have H105 := H100.pick [1, 0] (by decide) rfl
  refine ⟨.inr ⟨_, H105⟩, ?_⟩
  have H106 := H105.pick [1, 0] (by decide) rfl
  obtain ⟨r112, hr113⟩ : ∃ q, node_putText r96 p1.xHi = q := ⟨_, rfl⟩
  obtain ⟨D107, HP108, ro109, bk110, rr111⟩ := Own.enter1 H106
  refine GX.do 6 rfl (by kernel_rfl) (Do.call Tryz.call65 rfl (node_putText_ok _ _ A101 r96.length c102 r96 p1.xHi r112 HP108 rfl (by omega) (by first | omega | (simp only [List.length_cons, List.length_nil, List.length_append]; omega)) hr113) ?_)
  rintro _ w114 ⟨A117, c118, rfl, HQ115, hk119⟩
  have H116 := bk110 _ _ HQ115
  have hb120 := H116.rowC (i := 0) rfl
  replace hk119 : r112.length ≤ r96.length + p1.xHi.length + 10 := hk119
  have H121 := H116.pick [1, 0] (by decide) rfl
  refine ⟨.inr ⟨_, H121⟩, ?_⟩
  refine GX.take (v := .slice A117 r112.length c118) (rs := []) 7 rfl (by kernel_rfl) (fun _ _ => Yl.assign rfl) (GX.done (by kernel_rfl) (Fin.then (Wp.ret (Fin.res (res1 rfl rfl) ?_))))
  have H122 := H121.pick [1] (by decide) rfl
  have e : node_putOp l0 p1 = r112 := Eq.trans (if_neg h34) (Eq.trans (if_neg h71) (Eq.trans (bnd_of hr97) (bnd_of hr113)))
  obtain rfl := e.symm.trans hr
  exact ⟨A117, c118, rfl, H122, (by first | omega | (simp only [List.length_cons, List.length_nil, List.length_append]; omega))⟩

def node_leaf_write_L0 : List PairD → List UInt8 → (List UInt8)
  | [], l43 => l43
  | x54 :: q45, l43 => bnd (node_putText l43 x54.xKey) fun yr71 => bnd (node_putText yr71 x54.xValue) fun yr87 => node_leaf_write_L0 q45 yr87

def node_leaf_write (p0 : leafT) : (List UInt8) :=
  bnd (node_putNum ([1]) ((p0.xpairs.ls.length : Nat) : Int)) fun yr32 => bnd (node_leaf_write_L0 p0.xpairs.ls yr32) fun sLrbL => sLrbL

set_option maxRecDepth 100000 in
theorem node_leaf_write_ok (w : World) (D : Nat → Prop) (p0 : leafT) (A0x0 : Option Addr) (n0x0 c0x0 : Nat) (r0 : List UInt8) (H : Own w D w []) (hn0x0 : n0x0 = p0.xpairs.ls.length) (hx0x0 : Ro w D fun w' => Rds w' 2 A0x0 p0.xpairs.ls.length (List.flatMap PairD.cells p0.xpairs.ls)) (hb0x0 : p0.xpairs.ls.length ≤ c0x0 ∧ p0.xpairs.ls.length ≤ 9223372036854775807) (hh0 : (p0.xpairs.ls.length ≤ 1048576 ∧ ∀ x ∈ p0.xpairs.ls, x.xKey.length ≤ 1048576 ∧ x.xValue.length ≤ 1048576)) (hr : node_leaf_write p0 = r0) :
    Calls Tryz.prog 37 #[.agg #[.slice A0x0 n0x0 c0x0]] w (Ret fun v w' => ∃ (B0 : Option Addr) (b0 : Nat), v = .slice B0 r0.length b0 ∧ Own w D w' [row B0 r0.length b0 (List.flatMap eB r0) 5 1] ∧ (((r0.length : Nat) : Int) ≤ 11 + 2097172 * ((p0.xpairs.ls.length : Nat) : Int))) := by
  subst hn0x0
  have hh0a := hh0.1
  refine Calls.body (args := [.agg #[.slice A0x0 p0.xpairs.ls.length c0x0]]) Tryz.func37 rfl rfl rfl ?_
  show Wp _ _ _ [(0, .agg #[.slice A0x0 p0.xpairs.ls.length c0x0])] _ _
  refine Wp.seq (Wp.region ?_)
  refine WL.do rfl (Do.newP (cs := [.slice A0x0 p0.xpairs.ls.length c0x0]) (t := 74) H rfl rfl (fun _ => by kernel_rfl) ?_)
  intro g21 w22 H23
  refine As rfl rfl (WL.nil (Fin.then (Wp.seq (Wp.region ?_))))
  refine WL.do rfl (Do.newRow (cs := [.int .u8 1]) (t := 5) (sz := 1) (m := 1) H23 rfl rfl (fun _ => by kernel_rfl) rfl (by decide) ?_)
  intro A24 w25 H26
  replace H26 : Own w D w25 [row A24 1 1 (List.flatMap eB ([1])) 5 1, blk g21 [.slice A0x0 p0.xpairs.ls.length c0x0] 74] := H26
  refine Kn (v := .pointer (some ⟨g21, 0, none⟩)) rfl rfl rfl (fun _ => by kernel_rfl) (WL.val (v := .slice A0x0 p0.xpairs.ls.length c0x0) rfl (Yl.load rfl (Lds.one Tryz.isAgg22 (Cls.of (H26.cls (i := 1) rfl) rfl))) (Kn (v := .int .i64 ((p0.xpairs.ls.length : Nat) : Int)) rfl rfl rfl (fun _ => by kernel_rfl) ?_))
  obtain ⟨r32, hr33⟩ : ∃ q, node_putNum ([1]) ((p0.xpairs.ls.length : Nat) : Int) = q := ⟨_, rfl⟩
  obtain ⟨D27, HP28, ro29, bk30, rr31⟩ := Own.enter1 H26
  refine WL.do rfl (Do.call Tryz.call64 rfl (node_putNum_ok _ _ A24 1 1 ([1]) ((p0.xpairs.ls.length : Nat) : Int) r32 HP28 rfl (by simp) (by first | omega | (simp only [List.length_cons, List.length_nil, List.length_append]; omega)) hr33) ?_)
  rintro _ w34 ⟨A37, c38, rfl, HQ35, hk39⟩
  have H36 := bk30 _ _ HQ35
  have hb40 := H36.rowC (i := 0) rfl
  replace hk39 : r32.length ≤ 1 + 10 := hk39
  refine As rfl rfl (WL.nil (Fin.then (Wp.seq (Wp.seq (Wp.region (Kn (v := .pointer (some ⟨g21, 0, none⟩)) rfl rfl rfl (fun _ => by kernel_rfl) (WL.val (v := .slice A0x0 p0.xpairs.ls.length c0x0) rfl (Yl.load rfl (Lds.one Tryz.isAgg22 (Cls.of (H36.cls (i := 1) rfl) rfl))) (Kn (v := .int .i64 ((p0.xpairs.ls.length : Nat) : Int)) rfl rfl rfl (fun _ => by kernel_rfl) (Mv rfl rfl (WL.nil (Fin.then (Wp.block ?_))))))))))))
  have H46 := H36.pick [0] (by decide) rfl
  refine Wp.loop (ι := (Option Addr) × Nat × (List UInt8) × Nat) (fun i => [(3, .slice i.1 i.2.2.1.length i.2.1), (14, .int .i64 ((i.2.2.2 : Nat) : Int)), (13, .int .i64 ((p0.xpairs.ls.length : Nat) : Int)), (12, .slice A0x0 p0.xpairs.ls.length c0x0), (2, .slice none 0 0)]) (fun (i : (Option Addr) × Nat × (List UInt8) × Nat) w' => Own w D w' [row i.1 i.2.2.1.length i.2.1 (List.flatMap eB i.2.2.1) 5 1] ∧ (i.2.2.2 ≤ p0.xpairs.ls.length ∧ ((i.2.2.1.length : Nat) : Int) ≤ 11 + 2097172 * ((i.2.2.2 : Nat) : Int) ∧ node_leaf_write_L0 p0.xpairs.ls r32 = node_leaf_write_L0 (List.drop i.2.2.2 p0.xpairs.ls) i.2.2.1)) (fun i => p0.xpairs.ls.length - i.2.2.2) (A37, c38, r32, 0) ⟨rfl, rfl, rfl, rfl, rfl, trivial⟩ ⟨H46, (show 0 ≤ p0.xpairs.ls.length ∧ ((r32.length : Nat) : Int) ≤ 11 + 2097172 * ((0 : Nat) : Int) ∧ node_leaf_write_L0 p0.xpairs.ls r32 = node_leaf_write_L0 (List.drop 0 p0.xpairs.ls) r32 from ⟨by omega, by omega, rfl⟩)⟩ ?_
  rintro ⟨A41, c42, l43, k44⟩ w47 ⟨H48, hf49⟩
  show Wp _ _ _ [(3, .slice A41 l43.length c42), (14, .int .i64 ((k44 : Nat) : Int)), (13, .int .i64 ((p0.xpairs.ls.length : Nat) : Int)), (12, .slice A0x0 p0.xpairs.ls.length c0x0), (2, .slice none 0 0)] _ _
  replace hf49 : k44 ≤ p0.xpairs.ls.length ∧ ((l43.length : Nat) : Int) ≤ 11 + 2097172 * ((k44 : Nat) : Int) ∧ node_leaf_write_L0 p0.xpairs.ls r32 = node_leaf_write_L0 (List.drop k44 p0.xpairs.ls) l43 := hf49
  obtain ⟨hi51, hi52, hq50⟩ := hf49
  refine Wp.seq (Wp.region (Kn (v := .bool (decide (((k44 : Nat) : Int) < ((p0.xpairs.ls.length : Nat) : Int)))) rfl rfl rfl (fun _ => by kernel_rfl) (WL.nil (Fin.then (Wp.seq ?_)))))
  by_cases h53 : ((k44 : Nat) : Int) < ((p0.xpairs.ls.length : Nat) : Int)
  obtain ⟨x54, hx55⟩ := rds_at (ls := p0.xpairs.ls) (i := k44) PairD.len (by decide) (H48.ro hx0x0) (by first | omega | (simp; done) | (simp; omega))
  have hz56 : x54.xKey.length ≤ 1048576 ∧ x54.xValue.length ≤ 1048576 := hh0.2 _ (List.mem_of_getElem? hx55)
  have hd57 := drop_at hx55
  refine Wp.cond1 rfl (decide_eq_true h53) (Wp.skip (Fin.then (Wp.seq (Wp.block (Wp.seq (Wp.region (WL.val (v := .pointer (some ⟨ab A0x0, ao A0x0 + k44 * 2, none⟩)) rfl (Yl.indexAddr (El22) rfl rfl ((H48.ro hx0x0).addr (i := k44) (by omega)) (by omega)) (WL.val (v := .agg (PairD.cells x54).toArray) rfl (Yl.load rfl (Lds.agg (cs := (PairD.cells x54)) Tryz.isAgg44 Tryz.sizeOf44 ((H48.ro hx0x0).elem PairD.len hx55 (by decide)))) ?_))))))))
  refine WL.do rfl (Do.newP (cs := [.string ⟨List.toArray ([])⟩, .string ⟨List.toArray ([])⟩]) (t := 44) H48 rfl rfl (fun _ => by kernel_rfl) ?_)
  intro g58 w59 H60
  refine WL.do0 (Do.store (vs := (PairD.cells x54)) (o := 0) H60 rfl rfl Tryz.sizeOf44 rfl rfl rfl rfl ?_)
  intro w61 H62
  refine WL.nil (Fin.then ?_)
  have H64 := H62.drew
  refine Wp.drawnX [] (fun W => ∃ L', Own w D W ([blk g58 (PairD.cells x54) 44] ++ L')) (by kernel_rfl) (by kernel_rfl) (NoP.block (NoP.then (NoP.then (NoP.block (NoP.then NoP.base))))) ⟨_, H64⟩ ?_
  revert H64
  generalize World.drew w61 = w63
  intro H64
  refine GX.take (v := .slice A41 l43.length c42) (rs := []) 0 rfl (by kernel_rfl) (fun _ _ => Yl.move rfl) (GX.take (v := .pointer (some ⟨g58, 0, none⟩)) (rs := []) 1 rfl (by kernel_rfl) (fun _ _ => Yl.kern rfl rfl (fun _ => by kernel_rfl)) (GX.take (v := .string ⟨List.toArray x54.xKey⟩) (rs := []) 2 rfl (by kernel_rfl) (fun _ ⟨_, H9⟩ => Yl.load rfl (Lds.one Tryz.isAgg9 (Cls.of (H9.cls (i := 0) rfl) rfl))) (GX.take (v := .pointer (some ⟨g58, 1, none⟩)) (rs := []) 4 rfl (by kernel_rfl) (fun _ _ => Yl.kern rfl rfl (fun _ => by kernel_rfl)) (GX.take (v := .string ⟨List.toArray x54.xValue⟩) (rs := []) 5 rfl (by kernel_rfl) (fun _ ⟨_, H9⟩ => Yl.load rfl (Lds.one Tryz.isAgg9 (Cls.of (H9.cls (i := 0) rfl) rfl))) ?_))))
  have H65 := H64.pick [1, 0] (by decide) rfl
  obtain ⟨r71, hr72⟩ : ∃ q, node_putText l43 x54.xKey = q := ⟨_, rfl⟩
  obtain ⟨D66, HP67, ro68, bk69, rr70⟩ := Own.enter1 H65
  refine GX.do 3 rfl (by kernel_rfl) (Do.call Tryz.call65 rfl (node_putText_ok _ _ A41 l43.length c42 l43 x54.xKey r71 HP67 rfl (by omega) (by first | omega | (simp only [List.length_cons, List.length_nil, List.length_append]; omega)) hr72) ?_)
  rintro _ w73 ⟨A76, c77, rfl, HQ74, hk78⟩
  have H75 := bk69 _ _ HQ74
  have hb79 := H75.rowC (i := 0) rfl
  replace hk78 : r71.length ≤ l43.length + x54.xKey.length + 10 := hk78
  have H80 := H75.pick [1, 0] (by decide) rfl
  refine ⟨.inr ⟨_, H80⟩, ?_⟩
  have H81 := H80.pick [1, 0] (by decide) rfl
  obtain ⟨r87, hr88⟩ : ∃ q, node_putText r71 x54.xValue = q := ⟨_, rfl⟩
  obtain ⟨D82, HP83, ro84, bk85, rr86⟩ := Own.enter1 H81
  refine GX.do 6 rfl (by kernel_rfl) (Do.call Tryz.call65 rfl (node_putText_ok _ _ A76 r71.length c77 r71 x54.xValue r87 HP83 rfl (by omega) (by first | omega | (simp only [List.length_cons, List.length_nil, List.length_append]; omega)) hr88) ?_)
  rintro _ w89 ⟨A92, c93, rfl, HQ90, hk94⟩
  have H91 := bk85 _ _ HQ90
  have hb95 := H91.rowC (i := 0) rfl
  replace hk94 : r87.length ≤ r71.length + x54.xValue.length + 10 := hk94
  have H96 := H91.pick [1, 0] (by decide) rfl
  refine ⟨.inr ⟨_, H96⟩, ?_⟩
  refine GX.take (v := .slice A92 r87.length c93) (rs := []) 7 rfl (by kernel_rfl) (fun _ _ => Yl.assign rfl) (GX.done (by kernel_rfl) (Fin.blockN (Fin.then (Wp.region (WL.val (v := .int .i64 ((k44 + 1 : Nat) : Int)) rfl (Yl.int (e := IntKind.i64.wrap (((k44 : Nat) : Int) + 1)) (Yl.kern rfl rfl (fun _ => by kernel_rfl)) (by rw [IntWalk.i64_in _ (by omega)]; omega)) (Mv rfl rfl (WL.nil ?_)))))))
  have H97 := H96.pick [1] (by decide) rfl
  exact Fin.round (A92, c93, r87, k44 + 1) ⟨rfl, rfl, rfl, rfl, rfl, trivial⟩ ⟨H97, (show (k44 + 1) ≤ p0.xpairs.ls.length ∧ ((r87.length : Nat) : Int) ≤ 11 + 2097172 * (((k44 + 1) : Nat) : Int) ∧ node_leaf_write_L0 p0.xpairs.ls r32 = node_leaf_write_L0 (List.drop (k44 + 1) p0.xpairs.ls) r87 from ⟨by omega, by omega, Eq.trans (hq50) (Eq.trans (congrArg (fun q => node_leaf_write_L0 q l43) hd57) (Eq.trans (bnd_of hr72) (bnd_of hr88)))⟩)⟩ (by show p0.xpairs.ls.length - (k44 + 1) < p0.xpairs.ls.length - k44; omega)
  refine Wp.cond0 rfl (decide_eq_false h53) (Wp.exit (Fin.thenX ?_))
  have hL98 : node_leaf_write_L0 p0.xpairs.ls r32 = l43 := Eq.trans (hq50) (Eq.trans (congrArg (fun q => node_leaf_write_L0 q l43) (drop_end (ls := p0.xpairs.ls) (i := k44) (by omega))) rfl)
  refine Fin.thenX (Fin.blockX (Fin.then (Wp.seq (Wp.region (Mv rfl rfl (As rfl rfl (WL.nil (Fin.then (Wp.ret (Fin.res (res1 rfl rfl) ?_))))))))))
  have H99 := H48.pick [0] (by decide) rfl
  have e : node_leaf_write p0 = l43 := Eq.trans (bnd_of hr33) (bnd_of hL98)
  obtain rfl := e.symm.trans hr
  exact ⟨A41, c42, rfl, H99, (by first | omega | (simp only [List.length_cons, List.length_nil, List.length_append]; omega))⟩

def node_stem_write_L0 (p0 : stemT) : List Int → List UInt8 → (List UInt8)
  | [], l43 => l43
  | x54 :: q45, l43 => bnd (node_putNum l43 x54) fun yr63 => node_stem_write_L0 p0 q45 yr63

def node_stem_write_L1 (p0 : stemT) : List (List UInt8) → List UInt8 → (List UInt8)
  | [], l76 => l76
  | x87 :: q78, l76 => bnd (node_putText l76 x87) fun yr97 => node_stem_write_L1 p0 q78 yr97

def node_stem_write_L3 : List EntryD → List UInt8 → (List UInt8)
  | [], l143 => l143
  | x154 :: q145, l143 => bnd (octet_Num x154.xSeq) fun yr168 => bnd (node_putOp (l143 ++ yr168) x154.xOp) fun yr189 => node_stem_write_L3 q145 yr189

def node_stem_write_L2 : List (Ll EntryD) → List UInt8 → (List UInt8)
  | [], l110 => l110
  | x121 :: q112, l110 => bnd (node_putNum l110 ((x121.ls.length : Nat) : Int)) fun yr132 => bnd (node_stem_write_L3 x121.ls yr132) fun sLrbLaLaLsbL => node_stem_write_L2 q112 sLrbLaLaLsbL

def node_stem_write (p0 : stemT) : (List UInt8) :=
  bnd (node_putNum ([2]) ((p0.xkids.ls.length : Nat) : Int)) fun yr32 => bnd (node_stem_write_L0 p0 p0.xkids.ls yr32) fun sLrbL => bnd (node_stem_write_L1 p0 p0.xpivots.ls sLrbL) fun sLrbLaL => bnd (node_stem_write_L2 p0.xbuffers.ls sLrbLaL) fun sLrbLaLaL => sLrbLaLaL

set_option maxRecDepth 100000 in
theorem node_stem_write_ok (w : World) (D : Nat → Prop) (p0 : stemT) (A0x0 : Option Addr) (n0x0 c0x0 : Nat) (A0x1 : Option Addr) (n0x1 c0x1 : Nat) (A0x2 : Option Addr) (n0x2 c0x2 : Nat) (d0x2 : List Row46D) (r0 : List UInt8) (H : Own w D w []) (hn0x0 : n0x0 = p0.xkids.ls.length) (hx0x0 : Ro w D fun w' => Rds w' 1 A0x0 p0.xkids.ls.length (List.flatMap (eI .i64) p0.xkids.ls)) (hb0x0 : p0.xkids.ls.length ≤ c0x0 ∧ p0.xkids.ls.length ≤ 9223372036854775807) (hn0x1 : n0x1 = p0.xpivots.ls.length) (hx0x1 : Ro w D fun w' => Rds w' 1 A0x1 p0.xpivots.ls.length (List.flatMap eS p0.xpivots.ls)) (hb0x1 : p0.xpivots.ls.length ≤ c0x1 ∧ p0.xpivots.ls.length ≤ 9223372036854775807) (hd0x2 : List.map Row46D.abs d0x2 = p0.xbuffers.ls) (hn0x2 : n0x2 = p0.xbuffers.ls.length) (hx0x2 : Ro w D fun w' => Rds w' 1 A0x2 p0.xbuffers.ls.length (List.flatMap (Sv.enc (β := EntryD)) d0x2)) (hb0x2 : p0.xbuffers.ls.length ≤ c0x2 ∧ p0.xbuffers.ls.length ≤ 9223372036854775807) (hm0x2 : ∀ x ∈ d0x2, Ro w D (fun w' => Rds w' 7 x.A x.ls.length (List.flatMap EntryD.cells x.ls)) ∧ x.ls.length ≤ 9223372036854775807) (hh0 : (p0.xbuffers.ls.length ≤ 8 ∧ p0.xkids.ls.length ≤ 8 ∧ (p0.xpivots.ls.length ≤ 8 ∧ ∀ x ∈ p0.xpivots.ls, x.length ≤ 1048576) ∧ ∀ b ∈ p0.xbuffers.ls, b.ls.length ≤ 1048576 ∧ ∀ x ∈ b.ls, x.xSeq ≤ 18446744073709551615 ∧ x.xOp.xKey.length ≤ 1048576 ∧ x.xOp.xValue.length ≤ 1048576 ∧ x.xOp.xLo.length ≤ 1048576 ∧ x.xOp.xHi.length ≤ 1048576)) (hr : node_stem_write p0 = r0) :
    Calls Tryz.prog 38 #[.agg #[.slice A0x0 n0x0 c0x0, .slice A0x1 n0x1 c0x1, .slice A0x2 n0x2 c0x2]] w (Ret fun v w' => ∃ (B0 : Option Addr) (b0 : Nat), v = .slice B0 r0.length b0 ∧ Own w D w' [row B0 r0.length b0 (List.flatMap eB r0) 5 1] ∧ (r0.length ≤ 17592454480123)) := by
  subst hn0x0 hn0x1 hn0x2
  have hdl0x2 := abs_len hd0x2
  have hh0a := hh0.1
  have hh0b := hh0.2.1
  have hh0c := hh0.2.2.1.1
  refine Calls.body (args := [.agg #[.slice A0x0 p0.xkids.ls.length c0x0, .slice A0x1 p0.xpivots.ls.length c0x1, .slice A0x2 p0.xbuffers.ls.length c0x2]]) Tryz.func38 rfl rfl rfl ?_
  show Wp _ _ _ [(0, .agg #[.slice A0x0 p0.xkids.ls.length c0x0, .slice A0x1 p0.xpivots.ls.length c0x1, .slice A0x2 p0.xbuffers.ls.length c0x2])] _ _
  refine Wp.seq (Wp.region ?_)
  refine WL.do rfl (Do.newP (cs := [.slice A0x0 p0.xkids.ls.length c0x0, .slice A0x1 p0.xpivots.ls.length c0x1, .slice A0x2 p0.xbuffers.ls.length c0x2]) (t := 76) H rfl rfl (fun _ => by kernel_rfl) ?_)
  intro g21 w22 H23
  refine As rfl rfl (WL.nil (Fin.then (Wp.seq (Wp.region ?_))))
  refine WL.do rfl (Do.newRow (cs := [.int .u8 2]) (t := 5) (sz := 1) (m := 1) H23 rfl rfl (fun _ => by kernel_rfl) rfl (by decide) ?_)
  intro A24 w25 H26
  replace H26 : Own w D w25 [row A24 1 1 (List.flatMap eB ([2])) 5 1, blk g21 [.slice A0x0 p0.xkids.ls.length c0x0, .slice A0x1 p0.xpivots.ls.length c0x1, .slice A0x2 p0.xbuffers.ls.length c0x2] 76] := H26
  refine Kn (v := .pointer (some ⟨g21, 0, none⟩)) rfl rfl rfl (fun _ => by kernel_rfl) (WL.val (v := .slice A0x0 p0.xkids.ls.length c0x0) rfl (Yl.load rfl (Lds.one Tryz.isAgg23 (Cls.of (H26.cls (i := 1) rfl) rfl))) (Kn (v := .int .i64 ((p0.xkids.ls.length : Nat) : Int)) rfl rfl rfl (fun _ => by kernel_rfl) ?_))
  obtain ⟨r32, hr33⟩ : ∃ q, node_putNum ([2]) ((p0.xkids.ls.length : Nat) : Int) = q := ⟨_, rfl⟩
  obtain ⟨D27, HP28, ro29, bk30, rr31⟩ := Own.enter1 H26
  refine WL.do rfl (Do.call Tryz.call64 rfl (node_putNum_ok _ _ A24 1 1 ([2]) ((p0.xkids.ls.length : Nat) : Int) r32 HP28 rfl (by simp) (by first | omega | (simp only [List.length_cons, List.length_nil, List.length_append]; omega)) hr33) ?_)
  rintro _ w34 ⟨A37, c38, rfl, HQ35, hk39⟩
  have H36 := bk30 _ _ HQ35
  have hb40 := H36.rowC (i := 0) rfl
  replace hk39 : r32.length ≤ 1 + 10 := hk39
  refine As rfl rfl (WL.nil (Fin.then (Wp.seq (Wp.seq (Wp.region (Kn (v := .pointer (some ⟨g21, 0, none⟩)) rfl rfl rfl (fun _ => by kernel_rfl) (WL.val (v := .slice A0x0 p0.xkids.ls.length c0x0) rfl (Yl.load rfl (Lds.one Tryz.isAgg23 (Cls.of (H36.cls (i := 1) rfl) rfl))) (Kn (v := .int .i64 ((p0.xkids.ls.length : Nat) : Int)) rfl rfl rfl (fun _ => by kernel_rfl) (Mv rfl rfl (WL.nil (Fin.then (Wp.block ?_))))))))))))
  have H46 := H36.pick [1, 0] (by decide) rfl
  refine Wp.loop (ι := (Option Addr) × Nat × (List UInt8) × Nat) (fun i => [(3, .slice i.1 i.2.2.1.length i.2.1), (20, .int .i64 ((i.2.2.2 : Nat) : Int)), (19, .int .i64 ((p0.xkids.ls.length : Nat) : Int)), (18, .slice A0x0 p0.xkids.ls.length c0x0), (2, .slice none 0 0), (1, .pointer (some ⟨g21, 0, none⟩))]) (fun (i : (Option Addr) × Nat × (List UInt8) × Nat) w' => Own w D w' [blk g21 [.slice A0x0 p0.xkids.ls.length c0x0, .slice A0x1 p0.xpivots.ls.length c0x1, .slice A0x2 p0.xbuffers.ls.length c0x2] 76, row i.1 i.2.2.1.length i.2.1 (List.flatMap eB i.2.2.1) 5 1] ∧ (i.2.2.2 ≤ p0.xkids.ls.length ∧ ((i.2.2.1.length : Nat) : Int) ≤ 11 + 10 * ((i.2.2.2 : Nat) : Int) ∧ node_stem_write_L0 p0 p0.xkids.ls r32 = node_stem_write_L0 p0 (List.drop i.2.2.2 p0.xkids.ls) i.2.2.1)) (fun i => p0.xkids.ls.length - i.2.2.2) (A37, c38, r32, 0) ⟨rfl, rfl, rfl, rfl, rfl, rfl, trivial⟩ ⟨H46, (show 0 ≤ p0.xkids.ls.length ∧ ((r32.length : Nat) : Int) ≤ 11 + 10 * ((0 : Nat) : Int) ∧ node_stem_write_L0 p0 p0.xkids.ls r32 = node_stem_write_L0 p0 (List.drop 0 p0.xkids.ls) r32 from ⟨by omega, by omega, rfl⟩)⟩ ?_
  rintro ⟨A41, c42, l43, k44⟩ w47 ⟨H48, hf49⟩
  show Wp _ _ _ [(3, .slice A41 l43.length c42), (20, .int .i64 ((k44 : Nat) : Int)), (19, .int .i64 ((p0.xkids.ls.length : Nat) : Int)), (18, .slice A0x0 p0.xkids.ls.length c0x0), (2, .slice none 0 0), (1, .pointer (some ⟨g21, 0, none⟩))] _ _
  replace hf49 : k44 ≤ p0.xkids.ls.length ∧ ((l43.length : Nat) : Int) ≤ 11 + 10 * ((k44 : Nat) : Int) ∧ node_stem_write_L0 p0 p0.xkids.ls r32 = node_stem_write_L0 p0 (List.drop k44 p0.xkids.ls) l43 := hf49
  obtain ⟨hi51, hi52, hq50⟩ := hf49
  refine Wp.seq (Wp.region (Kn (v := .bool (decide (((k44 : Nat) : Int) < ((p0.xkids.ls.length : Nat) : Int)))) rfl rfl rfl (fun _ => by kernel_rfl) (WL.nil (Fin.then (Wp.seq ?_)))))
  by_cases h53 : ((k44 : Nat) : Int) < ((p0.xkids.ls.length : Nat) : Int)
  obtain ⟨x54, hx55⟩ := rds_at (ls := p0.xkids.ls) (i := k44) eI_len (by decide) (H48.ro hx0x0) (by first | omega | (simp; done) | (simp; omega))
  have hd56 := drop_at hx55
  refine Wp.cond1 rfl (decide_eq_true h53) (Wp.skip (Fin.then (Wp.seq (Wp.block (Wp.seq (Wp.region (WL.val (v := .pointer (some ⟨ab A0x0, ao A0x0 + k44 * 1, none⟩)) rfl (Yl.indexAddr (El23) rfl rfl ((H48.ro hx0x0).addr (i := k44) (by omega)) (by omega)) (WL.val (v := .int .i64 x54) rfl (Yl.load rfl (Lds.one Tryz.isAgg3 (((H48.ro hx0x0).elem eI_len hx55 (by decide)).at_ (k := 0) rfl))) (As rfl rfl (WL.nil (Fin.then (Wp.region (Mv rfl rfl (Mv rfl rfl ?_))))))))))))))
  have H57 := H48.pick [1, 0] (by decide) rfl
  obtain ⟨r63, hr64⟩ : ∃ q, node_putNum l43 x54 = q := ⟨_, rfl⟩
  obtain ⟨D58, HP59, ro60, bk61, rr62⟩ := Own.enter1 H57
  refine WL.do rfl (Do.call Tryz.call64 rfl (node_putNum_ok _ _ A41 l43.length c42 l43 x54 r63 HP59 rfl (by omega) (by first | omega | (simp only [List.length_cons, List.length_nil, List.length_append]; omega)) hr64) ?_)
  rintro _ w65 ⟨A68, c69, rfl, HQ66, hk70⟩
  have H67 := bk61 _ _ HQ66
  have hb71 := H67.rowC (i := 0) rfl
  replace hk70 : r63.length ≤ l43.length + 10 := hk70
  refine As rfl rfl (WL.nil (Fin.blockN (Fin.then (Wp.region (WL.val (v := .int .i64 ((k44 + 1 : Nat) : Int)) rfl (Yl.int (e := IntKind.i64.wrap (((k44 : Nat) : Int) + 1)) (Yl.kern rfl rfl (fun _ => by kernel_rfl)) (by rw [IntWalk.i64_in _ (by omega)]; omega)) (Mv rfl rfl (WL.nil ?_)))))))
  have H72 := H67.pick [1, 0] (by decide) rfl
  exact Fin.round (A68, c69, r63, k44 + 1) ⟨rfl, rfl, rfl, rfl, rfl, rfl, trivial⟩ ⟨H72, (show (k44 + 1) ≤ p0.xkids.ls.length ∧ ((r63.length : Nat) : Int) ≤ 11 + 10 * (((k44 + 1) : Nat) : Int) ∧ node_stem_write_L0 p0 p0.xkids.ls r32 = node_stem_write_L0 p0 (List.drop (k44 + 1) p0.xkids.ls) r63 from ⟨by omega, by omega, Eq.trans (hq50) (Eq.trans (congrArg (fun q => node_stem_write_L0 p0 q l43) hd56) (bnd_of hr64))⟩)⟩ (by show p0.xkids.ls.length - (k44 + 1) < p0.xkids.ls.length - k44; omega)
  refine Wp.cond0 rfl (decide_eq_false h53) (Wp.exit (Fin.thenX ?_))
  have hL73 : node_stem_write_L0 p0 p0.xkids.ls r32 = l43 := Eq.trans (hq50) (Eq.trans (congrArg (fun q => node_stem_write_L0 p0 q l43) (drop_end (ls := p0.xkids.ls) (i := k44) (by omega))) rfl)
  refine Fin.thenX (Fin.blockX (Fin.then (Wp.seq (Wp.seq (Wp.region (Kn (v := .pointer (some ⟨g21, 1, none⟩)) rfl rfl rfl (fun _ => by kernel_rfl) (WL.val (v := .slice A0x1 p0.xpivots.ls.length c0x1) rfl (Yl.load rfl (Lds.one Tryz.isAgg24 (Cls.of (H48.cls (i := 0) rfl) rfl))) (Kn (v := .int .i64 ((p0.xpivots.ls.length : Nat) : Int)) rfl rfl rfl (fun _ => by kernel_rfl) (Mv rfl rfl (WL.nil (Fin.then (Wp.block ?_))))))))))))
  have H79 := H48.pick [0, 1] (by decide) rfl
  refine Wp.loop (ι := (Option Addr) × Nat × (List UInt8) × Nat) (fun i => [(3, .slice i.1 i.2.2.1.length i.2.1), (31, .int .i64 ((i.2.2.2 : Nat) : Int)), (30, .int .i64 ((p0.xpivots.ls.length : Nat) : Int)), (29, .slice A0x1 p0.xpivots.ls.length c0x1), (2, .slice none 0 0), (1, .pointer (some ⟨g21, 0, none⟩))]) (fun (i : (Option Addr) × Nat × (List UInt8) × Nat) w' => Own w D w' [blk g21 [.slice A0x0 p0.xkids.ls.length c0x0, .slice A0x1 p0.xpivots.ls.length c0x1, .slice A0x2 p0.xbuffers.ls.length c0x2] 76, row i.1 i.2.2.1.length i.2.1 (List.flatMap eB i.2.2.1) 5 1] ∧ (i.2.2.2 ≤ p0.xpivots.ls.length ∧ ((i.2.2.1.length : Nat) : Int) ≤ 91 + 1048586 * ((i.2.2.2 : Nat) : Int) ∧ node_stem_write_L1 p0 p0.xpivots.ls l43 = node_stem_write_L1 p0 (List.drop i.2.2.2 p0.xpivots.ls) i.2.2.1)) (fun i => p0.xpivots.ls.length - i.2.2.2) (A41, c42, l43, 0) ⟨rfl, rfl, rfl, rfl, rfl, rfl, trivial⟩ ⟨H79, (show 0 ≤ p0.xpivots.ls.length ∧ ((l43.length : Nat) : Int) ≤ 91 + 1048586 * ((0 : Nat) : Int) ∧ node_stem_write_L1 p0 p0.xpivots.ls l43 = node_stem_write_L1 p0 (List.drop 0 p0.xpivots.ls) l43 from ⟨by omega, by omega, rfl⟩)⟩ ?_
  rintro ⟨A74, c75, l76, k77⟩ w80 ⟨H81, hf82⟩
  show Wp _ _ _ [(3, .slice A74 l76.length c75), (31, .int .i64 ((k77 : Nat) : Int)), (30, .int .i64 ((p0.xpivots.ls.length : Nat) : Int)), (29, .slice A0x1 p0.xpivots.ls.length c0x1), (2, .slice none 0 0), (1, .pointer (some ⟨g21, 0, none⟩))] _ _
  replace hf82 : k77 ≤ p0.xpivots.ls.length ∧ ((l76.length : Nat) : Int) ≤ 91 + 1048586 * ((k77 : Nat) : Int) ∧ node_stem_write_L1 p0 p0.xpivots.ls l43 = node_stem_write_L1 p0 (List.drop k77 p0.xpivots.ls) l76 := hf82
  obtain ⟨hi84, hi85, hq83⟩ := hf82
  refine Wp.seq (Wp.region (Kn (v := .bool (decide (((k77 : Nat) : Int) < ((p0.xpivots.ls.length : Nat) : Int)))) rfl rfl rfl (fun _ => by kernel_rfl) (WL.nil (Fin.then (Wp.seq ?_)))))
  by_cases h86 : ((k77 : Nat) : Int) < ((p0.xpivots.ls.length : Nat) : Int)
  obtain ⟨x87, hx88⟩ := rds_at (ls := p0.xpivots.ls) (i := k77) eS_len (by decide) (H81.ro hx0x1) (by first | omega | (simp; done) | (simp; omega))
  have hz89 : x87.length ≤ 1048576 := hh0.2.2.1.2 _ (List.mem_of_getElem? hx88)
  have hd90 := drop_at hx88
  refine Wp.cond1 rfl (decide_eq_true h86) (Wp.skip (Fin.then (Wp.seq (Wp.block (Wp.seq (Wp.region (WL.val (v := .pointer (some ⟨ab A0x1, ao A0x1 + k77 * 1, none⟩)) rfl (Yl.indexAddr (El24) rfl rfl ((H81.ro hx0x1).addr (i := k77) (by omega)) (by omega)) (WL.val (v := .string ⟨List.toArray x87⟩) rfl (Yl.load rfl (Lds.one Tryz.isAgg9 (((H81.ro hx0x1).elem eS_len hx88 (by decide)).at_ (k := 0) rfl))) (As rfl rfl (WL.nil (Fin.then (Wp.region (Mv rfl rfl (Mv rfl rfl ?_))))))))))))))
  have H91 := H81.pick [1, 0] (by decide) rfl
  obtain ⟨r97, hr98⟩ : ∃ q, node_putText l76 x87 = q := ⟨_, rfl⟩
  obtain ⟨D92, HP93, ro94, bk95, rr96⟩ := Own.enter1 H91
  refine WL.do rfl (Do.call Tryz.call65 rfl (node_putText_ok _ _ A74 l76.length c75 l76 x87 r97 HP93 rfl (by omega) (by first | omega | (simp only [List.length_cons, List.length_nil, List.length_append]; omega)) hr98) ?_)
  rintro _ w99 ⟨A102, c103, rfl, HQ100, hk104⟩
  have H101 := bk95 _ _ HQ100
  have hb105 := H101.rowC (i := 0) rfl
  replace hk104 : r97.length ≤ l76.length + x87.length + 10 := hk104
  refine As rfl rfl (WL.nil (Fin.blockN (Fin.then (Wp.region (WL.val (v := .int .i64 ((k77 + 1 : Nat) : Int)) rfl (Yl.int (e := IntKind.i64.wrap (((k77 : Nat) : Int) + 1)) (Yl.kern rfl rfl (fun _ => by kernel_rfl)) (by rw [IntWalk.i64_in _ (by omega)]; omega)) (Mv rfl rfl (WL.nil ?_)))))))
  have H106 := H101.pick [1, 0] (by decide) rfl
  exact Fin.round (A102, c103, r97, k77 + 1) ⟨rfl, rfl, rfl, rfl, rfl, rfl, trivial⟩ ⟨H106, (show (k77 + 1) ≤ p0.xpivots.ls.length ∧ ((r97.length : Nat) : Int) ≤ 91 + 1048586 * (((k77 + 1) : Nat) : Int) ∧ node_stem_write_L1 p0 p0.xpivots.ls l43 = node_stem_write_L1 p0 (List.drop (k77 + 1) p0.xpivots.ls) r97 from ⟨by omega, by omega, Eq.trans (hq83) (Eq.trans (congrArg (fun q => node_stem_write_L1 p0 q l76) hd90) (bnd_of hr98))⟩)⟩ (by show p0.xpivots.ls.length - (k77 + 1) < p0.xpivots.ls.length - k77; omega)
  refine Wp.cond0 rfl (decide_eq_false h86) (Wp.exit (Fin.thenX ?_))
  have hL107 : node_stem_write_L1 p0 p0.xpivots.ls l43 = l76 := Eq.trans (hq83) (Eq.trans (congrArg (fun q => node_stem_write_L1 p0 q l76) (drop_end (ls := p0.xpivots.ls) (i := k77) (by omega))) rfl)
  refine Fin.thenX (Fin.blockX (Fin.then (Wp.seq (Wp.seq (Wp.region (Kn (v := .pointer (some ⟨g21, 2, none⟩)) rfl rfl rfl (fun _ => by kernel_rfl) (WL.val (v := .slice A0x2 p0.xbuffers.ls.length c0x2) rfl (Yl.load rfl (Lds.one Tryz.isAgg25 (Cls.of (H81.cls (i := 0) rfl) rfl))) (Kn (v := .int .i64 ((p0.xbuffers.ls.length : Nat) : Int)) rfl rfl rfl (fun _ => by kernel_rfl) (Mv rfl rfl (WL.nil (Fin.then (Wp.block ?_))))))))))))
  have H113 := H81.pick [1] (by decide) rfl
  refine Wp.loop (ι := (Option Addr) × Nat × (List UInt8) × Nat) (fun i => [(3, .slice i.1 i.2.2.1.length i.2.1), (42, .int .i64 ((i.2.2.2 : Nat) : Int)), (41, .int .i64 ((p0.xbuffers.ls.length : Nat) : Int)), (40, .slice A0x2 p0.xbuffers.ls.length c0x2), (2, .slice none 0 0)]) (fun (i : (Option Addr) × Nat × (List UInt8) × Nat) w' => Own w D w' [row i.1 i.2.2.1.length i.2.1 (List.flatMap eB i.2.2.1) 5 1] ∧ (i.2.2.2 ≤ p0.xbuffers.ls.length ∧ ((i.2.2.1.length : Nat) : Int) ≤ 8388779 + 2199055761418 * ((i.2.2.2 : Nat) : Int) ∧ node_stem_write_L2 p0.xbuffers.ls l76 = node_stem_write_L2 (List.drop i.2.2.2 p0.xbuffers.ls) i.2.2.1)) (fun i => p0.xbuffers.ls.length - i.2.2.2) (A74, c75, l76, 0) ⟨rfl, rfl, rfl, rfl, rfl, trivial⟩ ⟨H113, (show 0 ≤ p0.xbuffers.ls.length ∧ ((l76.length : Nat) : Int) ≤ 8388779 + 2199055761418 * ((0 : Nat) : Int) ∧ node_stem_write_L2 p0.xbuffers.ls l76 = node_stem_write_L2 (List.drop 0 p0.xbuffers.ls) l76 from ⟨by omega, by omega, rfl⟩)⟩ ?_
  rintro ⟨A108, c109, l110, k111⟩ w114 ⟨H115, hf116⟩
  show Wp _ _ _ [(3, .slice A108 l110.length c109), (42, .int .i64 ((k111 : Nat) : Int)), (41, .int .i64 ((p0.xbuffers.ls.length : Nat) : Int)), (40, .slice A0x2 p0.xbuffers.ls.length c0x2), (2, .slice none 0 0)] _ _
  replace hf116 : k111 ≤ p0.xbuffers.ls.length ∧ ((l110.length : Nat) : Int) ≤ 8388779 + 2199055761418 * ((k111 : Nat) : Int) ∧ node_stem_write_L2 p0.xbuffers.ls l76 = node_stem_write_L2 (List.drop k111 p0.xbuffers.ls) l110 := hf116
  obtain ⟨hi118, hi119, hq117⟩ := hf116
  refine Wp.seq (Wp.region (Kn (v := .bool (decide (((k111 : Nat) : Int) < ((p0.xbuffers.ls.length : Nat) : Int)))) rfl rfl rfl (fun _ => by kernel_rfl) (WL.nil (Fin.then (Wp.seq ?_)))))
  by_cases h120 : ((k111 : Nat) : Int) < ((p0.xbuffers.ls.length : Nat) : Int)
  obtain ⟨x121, hx122⟩ := rds_at (ls := d0x2) (i := k111) svLen (by decide) (H115.ro hx0x2) (by first | omega | (simp; done) | (simp; omega))
  have hX123 := abs_at hd0x2 hx122
  have hb124 := (hm0x2 _ (List.mem_of_getElem? hx122)).2
  have hz125 : x121.ls.length ≤ 1048576 ∧ ∀ y ∈ x121.ls, y.xSeq ≤ 18446744073709551615 ∧ y.xOp.xKey.length ≤ 1048576 ∧ y.xOp.xValue.length ≤ 1048576 ∧ y.xOp.xLo.length ≤ 1048576 ∧ y.xOp.xHi.length ≤ 1048576 := hh0.2.2.2 _ (List.mem_of_getElem? hX123)
  have hz125a := hz125.1
  have hd126 := drop_at hX123
  refine Wp.cond1 rfl (decide_eq_true h120) (Wp.skip (Fin.then (Wp.seq (Wp.block (Wp.seq (Wp.region (WL.val (v := .pointer (some ⟨ab A0x2, ao A0x2 + k111 * 1, none⟩)) rfl (Yl.indexAddr (El25) rfl rfl ((H115.ro hx0x2).addr (i := k111) (by omega)) (by omega)) (WL.val (v := .slice x121.A x121.ls.length x121.c) rfl (Yl.load rfl (Lds.one Tryz.isAgg46 (((H115.ro hx0x2).elem svLen hx122 (by decide)).at_ (k := 0) rfl))) (As rfl rfl (WL.nil (Fin.then (Wp.seq (Wp.region (Mv rfl rfl (Mv rfl rfl (Kn (v := .int .i64 ((x121.ls.length : Nat) : Int)) rfl rfl rfl (fun _ => by kernel_rfl) ?_))))))))))))))))
  obtain ⟨r132, hr133⟩ : ∃ q, node_putNum l110 ((x121.ls.length : Nat) : Int) = q := ⟨_, rfl⟩
  obtain ⟨D127, HP128, ro129, bk130, rr131⟩ := Own.enter1 H115
  refine WL.do rfl (Do.call Tryz.call64 rfl (node_putNum_ok _ _ A108 l110.length c109 l110 ((x121.ls.length : Nat) : Int) r132 HP128 rfl (by omega) (by first | omega | (simp only [List.length_cons, List.length_nil, List.length_append]; omega)) hr133) ?_)
  rintro _ w134 ⟨A137, c138, rfl, HQ135, hk139⟩
  have H136 := bk130 _ _ HQ135
  have hb140 := H136.rowC (i := 0) rfl
  replace hk139 : r132.length ≤ l110.length + 10 := hk139
  refine As rfl rfl (WL.nil (Fin.then (Wp.seq (Wp.region (Mv rfl rfl (Kn (v := .int .i64 ((x121.ls.length : Nat) : Int)) rfl rfl rfl (fun _ => by kernel_rfl) (Mv rfl rfl (WL.nil (Fin.then (Wp.block ?_))))))))))
  have H146 := H136.pick [0] (by decide) rfl
  refine Wp.loop (ι := (Option Addr) × Nat × (List UInt8) × Nat) (fun i => [(3, .slice i.1 i.2.2.1.length i.2.1), (52, .int .i64 ((i.2.2.2 : Nat) : Int)), (51, .int .i64 ((x121.ls.length : Nat) : Int)), (50, .slice x121.A x121.ls.length x121.c), (49, .slice A137 r132.length c138), (48, .int .i64 ((x121.ls.length : Nat) : Int)), (47, .slice x121.A x121.ls.length x121.c), (46, .slice A108 l110.length c109), (9, .slice x121.A x121.ls.length x121.c), (45, .slice x121.A x121.ls.length x121.c), (44, .pointer (some ⟨ab A0x2, ao A0x2 + k111 * 1, none⟩)), (43, .bool (decide (((k111 : Nat) : Int) < ((p0.xbuffers.ls.length : Nat) : Int)))), (42, .int .i64 ((k111 : Nat) : Int)), (41, .int .i64 ((p0.xbuffers.ls.length : Nat) : Int)), (40, .slice A0x2 p0.xbuffers.ls.length c0x2), (2, .slice none 0 0)]) (fun (i : (Option Addr) × Nat × (List UInt8) × Nat) w' => Own w D w' [row i.1 i.2.2.1.length i.2.1 (List.flatMap eB i.2.2.1) 5 1] ∧ (i.2.2.2 ≤ x121.ls.length ∧ ((i.2.2.1.length : Nat) : Int) ≤ ((r132.length : Nat) : Int) + 2097183 * ((i.2.2.2 : Nat) : Int) ∧ node_stem_write_L3 x121.ls r132 = node_stem_write_L3 (List.drop i.2.2.2 x121.ls) i.2.2.1)) (fun i => x121.ls.length - i.2.2.2) (A137, c138, r132, 0) ⟨rfl, rfl, rfl, rfl, rfl, rfl, rfl, rfl, rfl, rfl, rfl, rfl, rfl, rfl, rfl, rfl, trivial⟩ ⟨H146, (show 0 ≤ x121.ls.length ∧ ((r132.length : Nat) : Int) ≤ ((r132.length : Nat) : Int) + 2097183 * ((0 : Nat) : Int) ∧ node_stem_write_L3 x121.ls r132 = node_stem_write_L3 (List.drop 0 x121.ls) r132 from ⟨by omega, by omega, rfl⟩)⟩ ?_
  rintro ⟨A141, c142, l143, k144⟩ w147 ⟨H148, hf149⟩
  show Wp _ _ _ [(3, .slice A141 l143.length c142), (52, .int .i64 ((k144 : Nat) : Int)), (51, .int .i64 ((x121.ls.length : Nat) : Int)), (50, .slice x121.A x121.ls.length x121.c), (49, .slice A137 r132.length c138), (48, .int .i64 ((x121.ls.length : Nat) : Int)), (47, .slice x121.A x121.ls.length x121.c), (46, .slice A108 l110.length c109), (9, .slice x121.A x121.ls.length x121.c), (45, .slice x121.A x121.ls.length x121.c), (44, .pointer (some ⟨ab A0x2, ao A0x2 + k111 * 1, none⟩)), (43, .bool (decide (((k111 : Nat) : Int) < ((p0.xbuffers.ls.length : Nat) : Int)))), (42, .int .i64 ((k111 : Nat) : Int)), (41, .int .i64 ((p0.xbuffers.ls.length : Nat) : Int)), (40, .slice A0x2 p0.xbuffers.ls.length c0x2), (2, .slice none 0 0)] _ _
  replace hf149 : k144 ≤ x121.ls.length ∧ ((l143.length : Nat) : Int) ≤ ((r132.length : Nat) : Int) + 2097183 * ((k144 : Nat) : Int) ∧ node_stem_write_L3 x121.ls r132 = node_stem_write_L3 (List.drop k144 x121.ls) l143 := hf149
  obtain ⟨hi151, hi152, hq150⟩ := hf149
  refine Wp.seq (Wp.region (Kn (v := .bool (decide (((k144 : Nat) : Int) < ((x121.ls.length : Nat) : Int)))) rfl rfl rfl (fun _ => by kernel_rfl) (WL.nil (Fin.then (Wp.seq ?_)))))
  by_cases h153 : ((k144 : Nat) : Int) < ((x121.ls.length : Nat) : Int)
  obtain ⟨x154, hx155⟩ := rds_at (ls := x121.ls) (i := k144) EntryD.len (by decide) (H148.ro (hm0x2 _ (List.mem_of_getElem? hx122)).1) (by first | omega | (simp; done) | (simp; omega))
  have hz156 : x154.xSeq ≤ 18446744073709551615 ∧ x154.xOp.xKey.length ≤ 1048576 ∧ x154.xOp.xValue.length ≤ 1048576 ∧ x154.xOp.xLo.length ≤ 1048576 ∧ x154.xOp.xHi.length ≤ 1048576 := hz125.2 _ (List.mem_of_getElem? hx155)
  have hd157 := drop_at hx155
  refine Wp.cond1 rfl (decide_eq_true h153) (Wp.skip (Fin.then (Wp.seq (Wp.block (Wp.seq (Wp.region (WL.val (v := .pointer (some ⟨ab x121.A, ao x121.A + k144 * 7, none⟩)) rfl (Yl.indexAddr (El46) rfl rfl ((H148.ro (hm0x2 _ (List.mem_of_getElem? hx122)).1).addr (i := k144) (by omega)) (by omega)) (WL.val (v := .agg (EntryD.cells x154).toArray) rfl (Yl.load rfl (Lds.agg (cs := (EntryD.cells x154)) Tryz.isAgg61 Tryz.sizeOf61 ((H148.ro (hm0x2 _ (List.mem_of_getElem? hx122)).1).elem EntryD.len hx155 (by decide)))) ?_))))))))
  refine WL.do rfl (Do.newP (cs := [.int .u64 0, .int .i64 0, .string ⟨List.toArray ([])⟩, .string ⟨List.toArray ([])⟩, .string ⟨List.toArray ([])⟩, .string ⟨List.toArray ([])⟩, .int .i64 0]) (t := 61) H148 rfl rfl (fun _ => by kernel_rfl) ?_)
  intro g158 w159 H160
  refine WL.do0 (Do.store (vs := (EntryD.cells x154)) (o := 0) H160 rfl rfl Tryz.sizeOf61 rfl rfl rfl rfl ?_)
  intro w161 H162
  refine WL.nil (Fin.then (Wp.seq (Wp.region (Mv rfl rfl (Kn (v := .pointer (some ⟨g158, 0, none⟩)) rfl rfl rfl (fun _ => by kernel_rfl) (WL.val (v := .int .u64 ((x154.xSeq : Nat) : Int)) rfl (Yl.load rfl (Lds.one Tryz.isAgg57 (Cls.of (H162.cls (i := 0) rfl) rfl))) ?_))))))
  obtain ⟨r168, hr169⟩ : ∃ q, octet_Num x154.xSeq = q := ⟨_, rfl⟩
  obtain ⟨D163, HP164, ro165, bk166, rr167⟩ := Own.enter0 H162
  refine WL.do rfl (Do.call Tryz.call66 rfl (octet_Num_ok _ _ x154.xSeq r168 HP164 (by omega) hr169) ?_)
  rintro _ w170 ⟨A173, c174, rfl, HQ171, hk175, hk176⟩
  have H172 := bk166 _ _ HQ171
  have hb177 := H172.rowC (i := 0) rfl
  replace hk175 : 1 ≤ r168.length ∧ r168.length ≤ 10 := hk175
  replace hk176 : x154.xSeq ≥ 128 ∨ r168.length = 1 := hk176
  have H178 := H172.pick [2, 0, 1] (by decide) rfl
  refine WL.do rfl (Do.appendW (k := l143.length) (m := r168.length) (El29) H178 rfl rfl (src_of Tryz.underlying29 (H178.rds (i := 1) rfl) (flat_one eB_one r168)) rfl (by omega) (s := List.length (l143 ++ r168)) (by first | omega | (simp only [List.length_append, List.length_cons, List.length_nil] <;> omega)) (List.flatMap_append).symm ?_)
  intro A179 c180 w181 H182
  have hl183 : List.length (l143 ++ r168) = l143.length + r168.length := by simp only [List.length_append, List.length_cons, List.length_nil]
  refine As rfl rfl (WL.nil (Fin.then (Wp.region (Mv rfl rfl (Kn (v := .pointer (some ⟨g158, 1, none⟩)) rfl rfl rfl (fun _ => by kernel_rfl) (WL.val (v := .agg (OpD.cells x154.xOp).toArray) rfl (Yl.load rfl (Lds.agg (cs := (OpD.cells x154.xOp)) Tryz.isAgg59 Tryz.sizeOf59 ((H182.cls (i := 2) rfl).lit (k := 1) (m := 6) rfl))) ?_))))))
  obtain ⟨r189, hr190⟩ : ∃ q, node_putOp (l143 ++ r168) x154.xOp = q := ⟨_, rfl⟩
  obtain ⟨D184, HP185, ro186, bk187, rr188⟩ := Own.enter1 H182
  refine WL.do rfl (Do.call Tryz.call67 rfl (node_putOp_ok _ _ A179 (List.length (l143 ++ r168)) c180 (l143 ++ r168) x154.xOp r189 HP185 rfl (by first | omega | (simp only [List.length_append, List.length_cons, List.length_nil, List.length_take, List.length_drop, List.length_set]; omega)) (by first | omega | (simp only [List.length_cons, List.length_nil, List.length_append]; omega)) hr190) ?_)
  rintro _ w191 ⟨A194, c195, rfl, HQ192, hk196⟩
  have H193 := bk187 _ _ HQ192
  have hb197 := H193.rowC (i := 0) rfl
  replace hk196 : r189.length ≤ List.length (l143 ++ r168) + 2097173 := hk196
  refine As rfl rfl (WL.nil (Fin.blockN (Fin.then (Wp.region (WL.val (v := .int .i64 ((k144 + 1 : Nat) : Int)) rfl (Yl.int (e := IntKind.i64.wrap (((k144 : Nat) : Int) + 1)) (Yl.kern rfl rfl (fun _ => by kernel_rfl)) (by rw [IntWalk.i64_in _ (by omega)]; omega)) (Mv rfl rfl (WL.nil ?_)))))))
  have H198 := H193.pick [0] (by decide) rfl
  exact Fin.round (A194, c195, r189, k144 + 1) ⟨rfl, rfl, rfl, rfl, rfl, rfl, rfl, rfl, rfl, rfl, rfl, rfl, rfl, rfl, rfl, rfl, trivial⟩ ⟨H198, (show (k144 + 1) ≤ x121.ls.length ∧ ((r189.length : Nat) : Int) ≤ ((r132.length : Nat) : Int) + 2097183 * (((k144 + 1) : Nat) : Int) ∧ node_stem_write_L3 x121.ls r132 = node_stem_write_L3 (List.drop (k144 + 1) x121.ls) r189 from ⟨by omega, by omega, Eq.trans (hq150) (Eq.trans (congrArg (fun q => node_stem_write_L3 q l143) hd157) (Eq.trans (bnd_of hr169) (bnd_of hr190)))⟩)⟩ (by show x121.ls.length - (k144 + 1) < x121.ls.length - k144; omega)
  refine Wp.cond0 rfl (decide_eq_false h153) (Wp.exit (Fin.thenX ?_))
  have hL199 : node_stem_write_L3 x121.ls r132 = l143 := Eq.trans (hq150) (Eq.trans (congrArg (fun q => node_stem_write_L3 q l143) (drop_end (ls := x121.ls) (i := k144) (by omega))) rfl)
  refine Fin.thenX (Fin.blockX (Fin.blockN (Fin.then (Wp.region (WL.val (v := .int .i64 ((k111 + 1 : Nat) : Int)) rfl (Yl.int (e := IntKind.i64.wrap (((k111 : Nat) : Int) + 1)) (Yl.kern rfl rfl (fun _ => by kernel_rfl)) (by rw [IntWalk.i64_in _ (by omega)]; omega)) (Mv rfl rfl (WL.nil ?_)))))))
  have H200 := H148.pick [0] (by decide) rfl
  exact Fin.round (A141, c142, l143, k111 + 1) ⟨rfl, rfl, rfl, rfl, rfl, trivial⟩ ⟨H200, (show (k111 + 1) ≤ p0.xbuffers.ls.length ∧ ((l143.length : Nat) : Int) ≤ 8388779 + 2199055761418 * (((k111 + 1) : Nat) : Int) ∧ node_stem_write_L2 p0.xbuffers.ls l76 = node_stem_write_L2 (List.drop (k111 + 1) p0.xbuffers.ls) l143 from ⟨by omega, by omega, Eq.trans (hq117) (Eq.trans (congrArg (fun q => node_stem_write_L2 q l110) hd126) (Eq.trans (bnd_of hr133) (bnd_of hL199)))⟩)⟩ (by show p0.xbuffers.ls.length - (k111 + 1) < p0.xbuffers.ls.length - k111; omega)
  refine Wp.cond0 rfl (decide_eq_false h120) (Wp.exit (Fin.thenX ?_))
  have hL201 : node_stem_write_L2 p0.xbuffers.ls l76 = l110 := Eq.trans (hq117) (Eq.trans (congrArg (fun q => node_stem_write_L2 q l110) (drop_end (ls := p0.xbuffers.ls) (i := k111) (by omega))) rfl)
  refine Fin.thenX (Fin.blockX (Fin.then (Wp.seq (Wp.region (Mv rfl rfl (As rfl rfl (WL.nil (Fin.then (Wp.ret (Fin.res (res1 rfl rfl) ?_))))))))))
  have H202 := H115.pick [0] (by decide) rfl
  have e : node_stem_write p0 = l110 := Eq.trans (bnd_of hr33) (Eq.trans (bnd_of hL73) (Eq.trans (bnd_of hL107) (bnd_of hL201)))
  obtain rfl := e.symm.trans hr
  exact ⟨A108, c109, rfl, H202, (by first | omega | (simp only [List.length_cons, List.length_nil, List.length_append]; omega))⟩

def node_Encode (p0 : NodeT) : (List UInt8) × Int :=
  if p0.xLeaf = true then if IntKind.i64.wrap ((IntKind.i64.wrap (((p0.xKids.ls.length : Nat) : Int) + ((p0.xPivots.ls.length : Nat) : Int))) + ((p0.xBuffers.ls.length : Nat) : Int)) = 0 then bnd (op_CheckMap p0.xPairs.ls) fun yr40 => if yr40 = 0 then bnd (node_leaf_write (leafT.mk (Ll.mk p0.xPairs.ls))) fun yr57 => if ((yr57.length : Nat) : Int) > 480 then ([], 2) else (yr57, 0) else ([], yr40) else ([], 130) else if ((p0.xPairs.ls.length : Nat) : Int) = 0 then bnd (node_stem_check (stemT.mk (Ll.mk p0.xKids.ls) (Ll.mk p0.xPivots.ls) (Ll.mk p0.xBuffers.ls))) fun yr90 => if yr90 = 0 then bnd (node_stem_write (stemT.mk (Ll.mk p0.xKids.ls) (Ll.mk p0.xPivots.ls) (Ll.mk p0.xBuffers.ls))) fun yr108 => if ((yr108.length : Nat) : Int) > 480 then ([], 2) else (yr108, 0) else ([], yr90) else ([], 130)

set_option maxRecDepth 100000 in
theorem node_Encode_ok (w : World) (D : Nat → Prop) (p0 : NodeT) (A0x0 : Option Addr) (n0x0 c0x0 : Nat) (A0x1 : Option Addr) (n0x1 c0x1 : Nat) (A0x2 : Option Addr) (n0x2 c0x2 : Nat) (A0x3 : Option Addr) (n0x3 c0x3 : Nat) (d0x3 : List Row46D) (r0 : List UInt8) (r1 : Int) (H : Own w D w []) (hn0x0 : n0x0 = p0.xPairs.ls.length) (hx0x0 : Ro w D fun w' => Rds w' 2 A0x0 p0.xPairs.ls.length (List.flatMap PairD.cells p0.xPairs.ls)) (hb0x0 : p0.xPairs.ls.length ≤ c0x0 ∧ p0.xPairs.ls.length ≤ 9223372036854775807) (hn0x1 : n0x1 = p0.xKids.ls.length) (hx0x1 : Ro w D fun w' => Rds w' 1 A0x1 p0.xKids.ls.length (List.flatMap (eI .i64) p0.xKids.ls)) (hb0x1 : p0.xKids.ls.length ≤ c0x1 ∧ p0.xKids.ls.length ≤ 9223372036854775807) (hn0x2 : n0x2 = p0.xPivots.ls.length) (hx0x2 : Ro w D fun w' => Rds w' 1 A0x2 p0.xPivots.ls.length (List.flatMap eS p0.xPivots.ls)) (hb0x2 : p0.xPivots.ls.length ≤ c0x2 ∧ p0.xPivots.ls.length ≤ 9223372036854775807) (hd0x3 : List.map Row46D.abs d0x3 = p0.xBuffers.ls) (hn0x3 : n0x3 = p0.xBuffers.ls.length) (hx0x3 : Ro w D fun w' => Rds w' 1 A0x3 p0.xBuffers.ls.length (List.flatMap (Sv.enc (β := EntryD)) d0x3)) (hb0x3 : p0.xBuffers.ls.length ≤ c0x3 ∧ p0.xBuffers.ls.length ≤ 9223372036854775807) (hm0x3 : ∀ x ∈ d0x3, Ro w D (fun w' => Rds w' 7 x.A x.ls.length (List.flatMap EntryD.cells x.ls)) ∧ x.ls.length ≤ 9223372036854775807) (hh0 : ((p0.xPairs.ls.length ≤ 1048576 ∧ ∀ x ∈ p0.xPairs.ls, x.xKey.length ≤ 1048576 ∧ x.xValue.length ≤ 1048576) ∧ (∀ x ∈ p0.xPivots.ls, x.length ≤ 1048576) ∧ ∀ b ∈ p0.xBuffers.ls, b.ls.length ≤ 1048576 ∧ ∀ x ∈ b.ls, x.xSeq ≤ 18446744073709551615 ∧ x.xOp.xKey.length ≤ 1048576 ∧ x.xOp.xValue.length ≤ 1048576 ∧ x.xOp.xLo.length ≤ 1048576 ∧ x.xOp.xHi.length ≤ 1048576)) (hr : node_Encode p0 = (r0, r1)) :
    Calls Tryz.prog 6 #[.agg #[.bool p0.xLeaf, .slice A0x0 n0x0 c0x0, .slice A0x1 n0x1 c0x1, .slice A0x2 n0x2 c0x2, .slice A0x3 n0x3 c0x3]] w (Ret fun v w' => ∃ (B0 : Option Addr) (b0 : Nat), v = .tuple #[.slice B0 r0.length b0, .int .i64 r1] ∧ Own w D w' [row B0 r0.length b0 (List.flatMap eB r0) 5 1] ∧ (r0.length ≤ 480)) := by
  subst hn0x0 hn0x1 hn0x2 hn0x3
  have hdl0x3 := abs_len hd0x3
  refine Calls.body (args := [.agg #[.bool p0.xLeaf, .slice A0x0 p0.xPairs.ls.length c0x0, .slice A0x1 p0.xKids.ls.length c0x1, .slice A0x2 p0.xPivots.ls.length c0x2, .slice A0x3 p0.xBuffers.ls.length c0x3]]) Tryz.func6 rfl rfl rfl ?_
  show Wp _ _ _ [(0, .agg #[.bool p0.xLeaf, .slice A0x0 p0.xPairs.ls.length c0x0, .slice A0x1 p0.xKids.ls.length c0x1, .slice A0x2 p0.xPivots.ls.length c0x2, .slice A0x3 p0.xBuffers.ls.length c0x3])] _ _
  refine Wp.seq (Wp.region ?_)
  refine WL.do rfl (Do.newP (cs := [.bool p0.xLeaf, .slice A0x0 p0.xPairs.ls.length c0x0, .slice A0x1 p0.xKids.ls.length c0x1, .slice A0x2 p0.xPivots.ls.length c0x2, .slice A0x3 p0.xBuffers.ls.length c0x3]) (t := 27) H rfl rfl (fun _ => by kernel_rfl) ?_)
  intro g21 w22 H23
  refine As rfl rfl (As rfl rfl (WL.nil (Fin.then (Wp.seq (Wp.region (WL.val (v := .agg #[.bool p0.xLeaf, .slice A0x0 p0.xPairs.ls.length c0x0, .slice A0x1 p0.xKids.ls.length c0x1, .slice A0x2 p0.xPivots.ls.length c0x2, .slice A0x3 p0.xBuffers.ls.length c0x3]) rfl (Yl.load rfl (Lds.agg (cs := [.bool p0.xLeaf, .slice A0x0 p0.xPairs.ls.length c0x0, .slice A0x1 p0.xKids.ls.length c0x1, .slice A0x2 p0.xPivots.ls.length c0x2, .slice A0x3 p0.xBuffers.ls.length c0x3]) Tryz.isAgg27 Tryz.sizeOf27 ((H23.cls (i := 0) rfl).lit (k := 0) (m := 5) rfl))) ?_))))))
  refine WL.do rfl (Do.call Tryz.call19 rfl ?_ (fun _ _ k => k))
  refine Calls.body (args := [.agg #[.bool p0.xLeaf, .slice A0x0 p0.xPairs.ls.length c0x0, .slice A0x1 p0.xKids.ls.length c0x1, .slice A0x2 p0.xPivots.ls.length c0x2, .slice A0x3 p0.xBuffers.ls.length c0x3]]) Tryz.func19 rfl rfl rfl ?_
  show Wp _ _ _ [(0, .agg #[.bool p0.xLeaf, .slice A0x0 p0.xPairs.ls.length c0x0, .slice A0x1 p0.xKids.ls.length c0x1, .slice A0x2 p0.xPivots.ls.length c0x2, .slice A0x3 p0.xBuffers.ls.length c0x3])] _ _
  refine Wp.seq (Wp.region ?_)
  refine WL.do rfl (Do.newP (cs := [.bool p0.xLeaf, .slice A0x0 p0.xPairs.ls.length c0x0, .slice A0x1 p0.xKids.ls.length c0x1, .slice A0x2 p0.xPivots.ls.length c0x2, .slice A0x3 p0.xBuffers.ls.length c0x3]) (t := 27) H23 rfl rfl (fun _ => by kernel_rfl) ?_)
  intro g24 w25 H26
  refine As rfl rfl (WL.nil (Fin.then (Wp.seq (Wp.block (Wp.seq (Wp.region (Kn (v := .pointer (some ⟨g24, 0, none⟩)) rfl rfl rfl (fun _ => by kernel_rfl) (WL.val (v := .bool p0.xLeaf) rfl (Yl.load rfl (Lds.one Tryz.isAgg4 (Cls.of (H26.cls (i := 0) rfl) rfl))) (Mv rfl rfl ?_)))))))))
  rcases Bool.eq_false_or_eq_true (p0.xLeaf) with h27 | h27
  refine WL.valG (v := .pointer (some ⟨g24, 2, none⟩)) rfl rfl h27 rfl (Yl.kern rfl rfl (fun _ => by kernel_rfl)) (WL.valG (v := .slice A0x1 p0.xKids.ls.length c0x1) rfl rfl h27 rfl (Yl.load rfl (Lds.one Tryz.isAgg23 (Cls.of (H26.cls (i := 0) rfl) rfl))) (WL.valG (v := .int .i64 ((p0.xKids.ls.length : Nat) : Int)) rfl rfl h27 rfl (Yl.kern rfl rfl (fun _ => by kernel_rfl)) (WL.valG (v := .pointer (some ⟨g24, 3, none⟩)) rfl rfl h27 rfl (Yl.kern rfl rfl (fun _ => by kernel_rfl)) (WL.valG (v := .slice A0x2 p0.xPivots.ls.length c0x2) rfl rfl h27 rfl (Yl.load rfl (Lds.one Tryz.isAgg24 (Cls.of (H26.cls (i := 0) rfl) rfl))) (WL.valG (v := .int .i64 ((p0.xPivots.ls.length : Nat) : Int)) rfl rfl h27 rfl (Yl.kern rfl rfl (fun _ => by kernel_rfl)) (WL.valG (v := .int .i64 (IntKind.i64.wrap (((p0.xKids.ls.length : Nat) : Int) + ((p0.xPivots.ls.length : Nat) : Int)))) rfl rfl h27 rfl (Yl.kern rfl rfl (fun _ => by kernel_rfl)) (WL.valG (v := .pointer (some ⟨g24, 4, none⟩)) rfl rfl h27 rfl (Yl.kern rfl rfl (fun _ => by kernel_rfl)) (WL.valG (v := .slice A0x3 p0.xBuffers.ls.length c0x3) rfl rfl h27 rfl (Yl.load rfl (Lds.one Tryz.isAgg25 (Cls.of (H26.cls (i := 0) rfl) rfl))) (WL.valG (v := .int .i64 ((p0.xBuffers.ls.length : Nat) : Int)) rfl rfl h27 rfl (Yl.kern rfl rfl (fun _ => by kernel_rfl)) (WL.valG (v := .int .i64 (IntKind.i64.wrap ((IntKind.i64.wrap (((p0.xKids.ls.length : Nat) : Int) + ((p0.xPivots.ls.length : Nat) : Int))) + ((p0.xBuffers.ls.length : Nat) : Int)))) rfl rfl h27 rfl (Yl.kern rfl rfl (fun _ => by kernel_rfl)) (WL.valG (v := .bool (decide (IntKind.i64.wrap ((IntKind.i64.wrap (((p0.xKids.ls.length : Nat) : Int) + ((p0.xPivots.ls.length : Nat) : Int))) + ((p0.xBuffers.ls.length : Nat) : Int)) = 0))) rfl rfl h27 rfl (Yl.kern rfl rfl (fun _ => by kernel_rfl)) (WL.val (v := .bool (decide (IntKind.i64.wrap ((IntKind.i64.wrap (((p0.xKids.ls.length : Nat) : Int) + ((p0.xPivots.ls.length : Nat) : Int))) + ((p0.xBuffers.ls.length : Nat) : Int)) = 0))) rfl (Yl.pickT rfl h27 rfl) (As rfl rfl (WL.nil (Fin.then ?_)))))))))))))))
  by_cases h28 : IntKind.i64.wrap ((IntKind.i64.wrap (((p0.xKids.ls.length : Nat) : Int) + ((p0.xPivots.ls.length : Nat) : Int))) + ((p0.xBuffers.ls.length : Nat) : Int)) = 0
  refine Wp.cond1 rfl (decide_eq_true h28) (Wp.seq (Wp.region (Kn (v := .pointer (some ⟨g24, 1, none⟩)) rfl rfl rfl (fun _ => by kernel_rfl) (WL.val (v := .slice A0x0 p0.xPairs.ls.length c0x0) rfl (Yl.load rfl (Lds.one Tryz.isAgg22 (Cls.of (H26.cls (i := 0) rfl) rfl))) (Kn (v := .agg #[.slice A0x0 p0.xPairs.ls.length c0x0]) rfl rfl rfl (fun _ => by kernel_rfl) (Kn (v := .iface 74 (.agg #[.slice A0x0 p0.xPairs.ls.length c0x0])) rfl rfl rfl (fun _ => by kernel_rfl) (As rfl rfl (WL.nil (Fin.then (Wp.ret (Fin.blockR (Fin.thenR (Fin.res (res1 rfl rfl) (As rfl rfl (WL.nil (Fin.then (Wp.seq (Wp.seq ?_))))))))))))))))))
  have H29 := H26.pick [] (by decide) rfl
  refine Wp.region (Mv rfl rfl ?_)
  refine WL.do rfl (Do.call Tryz.call20 rfl ?_ (fun _ _ k => k))
  refine Calls.body (args := [.iface 74 (.agg #[.slice A0x0 p0.xPairs.ls.length c0x0])]) Tryz.func20 rfl rfl rfl ?_
  show Wp _ _ _ [(0, .iface 74 (.agg #[.slice A0x0 p0.xPairs.ls.length c0x0]))] _ _
  refine Wp.seq (Wp.region (As rfl rfl (WL.nil (Fin.then (Wp.seq (Wp.seq (Wp.region (Mv rfl rfl (WL.nil (Fin.then (Wp.block (Wp.seq (Wp.region (Kn (v := .tuple #[.agg #[.slice A0x0 p0.xPairs.ls.length c0x0], .bool true]) rfl rfl rfl (fun _ => by kernel_rfl) (Kn (v := .bool true) rfl rfl rfl (fun _ => by kernel_rfl) (Kn (v := .agg #[.slice A0x0 p0.xPairs.ls.length c0x0]) rfl rfl rfl (fun _ => by kernel_rfl) (WL.nil (Fin.then (Wp.cond1 rfl rfl (Wp.seq (Wp.region ?_)))))))))))))))))))))
  refine WL.do rfl (Do.newP (cs := [.slice none 0 0]) (t := 74) H29 rfl rfl (fun _ => by kernel_rfl) ?_)
  intro g30 w31 H32
  refine WL.do0 (Do.store (vs := [.slice A0x0 p0.xPairs.ls.length c0x0]) (o := 0) H32 rfl rfl Tryz.sizeOf74 rfl rfl rfl rfl ?_)
  intro w33 H34
  refine WL.nil (Fin.then (Wp.seq (Wp.region (Kn (v := .pointer (some ⟨g30, 0, none⟩)) rfl rfl rfl (fun _ => by kernel_rfl) (WL.val (v := .slice A0x0 p0.xPairs.ls.length c0x0) rfl (Yl.load rfl (Lds.one Tryz.isAgg22 (Cls.of (H34.cls (i := 0) rfl) rfl))) ?_)))))
  obtain ⟨r40, hr41⟩ : ∃ q, op_CheckMap p0.xPairs.ls = q := ⟨_, rfl⟩
  obtain ⟨D35, HP36, ro37, bk38, rr39⟩ := Own.enter0 H34
  refine WL.do rfl (Do.call Tryz.call35 rfl (op_CheckMap_ok _ _ A0x0 p0.xPairs.ls.length c0x0 p0.xPairs.ls r40 HP36 (ro37 _ hx0x0) rfl (by omega) hr41) ?_)
  rintro _ w42 ⟨rfl, HQ43⟩
  have H44 := bk38 _ _ HQ43
  refine As rfl rfl (WL.nil (Fin.then (Wp.ret (Fin.blockR (Fin.thenR (Fin.res (res1 rfl rfl) (As rfl rfl (WL.nil (Fin.then (Wp.seq (Wp.region (Mv rfl rfl (WL.val (v := .bool (decide (¬ (r40 = 0)))) rfl (Yl.bool (e := !(decide (r40 = 0))) (Yl.kern rfl rfl (fun _ => by kernel_rfl)) decide_not.symm) (WL.nil (Fin.then ?_)))))))))))))))
  by_cases h45 : r40 = 0
  refine Wp.cond0 rfl (decide_eq_false (not_not_intro h45)) (Wp.skip (Fin.then (Wp.seq (Wp.region (Mv rfl rfl ?_)))))
  refine WL.do rfl (Do.call Tryz.call21 rfl ?_ (fun _ _ k => k))
  refine Calls.body (args := [.iface 74 (.agg #[.slice A0x0 p0.xPairs.ls.length c0x0])]) Tryz.func21 rfl rfl rfl ?_
  show Wp _ _ _ [(0, .iface 74 (.agg #[.slice A0x0 p0.xPairs.ls.length c0x0]))] _ _
  refine Wp.seq (Wp.region (As rfl rfl (WL.nil (Fin.then (Wp.seq (Wp.seq (Wp.region (Mv rfl rfl (WL.nil (Fin.then (Wp.block (Wp.seq (Wp.region (Kn (v := .tuple #[.agg #[.slice A0x0 p0.xPairs.ls.length c0x0], .bool true]) rfl rfl rfl (fun _ => by kernel_rfl) (Kn (v := .bool true) rfl rfl rfl (fun _ => by kernel_rfl) (Kn (v := .agg #[.slice A0x0 p0.xPairs.ls.length c0x0]) rfl rfl rfl (fun _ => by kernel_rfl) (WL.nil (Fin.then (Wp.cond1 rfl rfl (Wp.seq (Wp.region ?_)))))))))))))))))))))
  refine WL.do rfl (Do.newP (cs := [.slice none 0 0]) (t := 74) H44 rfl rfl (fun _ => by kernel_rfl) ?_)
  intro g46 w47 H48
  refine WL.do0 (Do.store (vs := [.slice A0x0 p0.xPairs.ls.length c0x0]) (o := 0) H48 rfl rfl Tryz.sizeOf74 rfl rfl rfl rfl ?_)
  intro w49 H50
  refine WL.nil (Fin.then (Wp.seq ?_))
  have H51 := H50.pick [0] (by decide) rfl
  refine Wp.region (WL.val (v := .agg #[.slice A0x0 p0.xPairs.ls.length c0x0]) rfl (Yl.load rfl (Lds.agg (cs := [.slice A0x0 p0.xPairs.ls.length c0x0]) Tryz.isAgg74 Tryz.sizeOf74 ((H51.cls (i := 0) rfl).lit (k := 0) (m := 1) rfl))) ?_)
  obtain ⟨r57, hr58⟩ : ∃ q, node_leaf_write (leafT.mk (Ll.mk p0.xPairs.ls)) = q := ⟨_, rfl⟩
  obtain ⟨D52, HP53, ro54, bk55, rr56⟩ := Own.enter0 H51
  refine WL.do rfl (Do.call Tryz.call37 rfl (node_leaf_write_ok _ _ (leafT.mk (Ll.mk p0.xPairs.ls)) A0x0 p0.xPairs.ls.length c0x0 r57 HP53 rfl (ro54 _ hx0x0) (by first | exact ⟨Nat.le_of_ble_eq_true rfl, Nat.le_of_ble_eq_true rfl⟩ | omega | exact ⟨Nat.le_refl _, by omega⟩) (by exact hh0.1) hr58) ?_)
  rintro _ w59 ⟨A62, c63, rfl, HQ60, hk64⟩
  have H61 := bk55 _ _ HQ60
  have hb65 := H61.rowC (i := 0) rfl
  replace hk64 : ((r57.length : Nat) : Int) ≤ 11 + 2097172 * ((List.length (leafT.mk (Ll.mk p0.xPairs.ls)).xpairs.ls : Nat) : Int) := hk64
  refine As rfl rfl (WL.nil (Fin.then (Wp.ret (Fin.blockR (Fin.thenR (Fin.res (res1 rfl rfl) (As rfl rfl (WL.nil (Fin.then (Wp.seq (Wp.seq ?_)))))))))))
  have H66 := H61.pick [0] (by decide) rfl
  refine Wp.region (Mv rfl rfl (Kn (v := .int .i64 ((r57.length : Nat) : Int)) rfl rfl rfl (fun _ => by kernel_rfl) (Kn (v := .bool (decide (((r57.length : Nat) : Int) > 480))) rfl rfl rfl (fun _ => by kernel_rfl) (WL.nil (Fin.then ?_)))))
  by_cases h67 : ((r57.length : Nat) : Int) > 480
  refine Wp.cond1 rfl (decide_eq_true h67) (Wp.seq (Wp.region (As rfl rfl (As rfl rfl (WL.nil (Fin.then (Wp.ret (Fin.thenR (Fin.res (res2 rfl rfl rfl) ?_)))))))))
  have H68 : Own w D w59 [row none 0 0 (List.flatMap eB ([])) 5 1, row A62 r57.length c63 (List.flatMap eB r57) 5 1] := H66.free (row_nil 5 1)
  have H69 := H68.pick [0] (by decide) rfl
  have e : node_Encode p0 = ([], 2) := Eq.trans (if_pos h27) (Eq.trans (if_pos h28) (Eq.trans (bnd_of hr41) (Eq.trans (if_pos h45) (Eq.trans (bnd_of hr58) (if_pos h67)))))
  obtain ⟨rfl, rfl⟩ := pj2 (e.symm.trans hr)
  exact ⟨none, 0, rfl, H69, (by first | omega | exact Nat.zero_le _)⟩
  refine Wp.cond0 rfl (decide_eq_false h67) (Wp.skip (Fin.then (Wp.seq (Wp.region (Mv rfl rfl (As rfl rfl (As rfl rfl (WL.nil (Fin.then (Wp.ret (Fin.res (res2 rfl rfl rfl) ?_)))))))))))
  have H70 := H66.pick [0] (by decide) rfl
  have e : node_Encode p0 = (r57, 0) := Eq.trans (if_pos h27) (Eq.trans (if_pos h28) (Eq.trans (bnd_of hr41) (Eq.trans (if_pos h45) (Eq.trans (bnd_of hr58) (if_neg h67)))))
  obtain ⟨rfl, rfl⟩ := pj2 (e.symm.trans hr)
  exact ⟨A62, c63, rfl, H70, (by first | omega | exact Nat.zero_le _)⟩
  refine Wp.cond1 rfl (decide_eq_true h45) (Wp.seq (Wp.region (Mv rfl rfl (As rfl rfl (As rfl rfl (WL.nil (Fin.then (Wp.ret (Fin.thenR (Fin.res (res2 rfl rfl rfl) ?_))))))))))
  have H71 : Own w D w42 [row none 0 0 (List.flatMap eB ([])) 5 1, blk g30 [.slice A0x0 p0.xPairs.ls.length c0x0] 74] := H44.free (row_nil 5 1)
  have H72 := H71.pick [0] (by decide) rfl
  have e : node_Encode p0 = ([], r40) := Eq.trans (if_pos h27) (Eq.trans (if_pos h28) (Eq.trans (bnd_of hr41) (if_neg h45)))
  obtain ⟨rfl, rfl⟩ := pj2 (e.symm.trans hr)
  exact ⟨none, 0, rfl, H72, (by first | omega | exact Nat.zero_le _)⟩
  refine Wp.cond0 rfl (decide_eq_false h28) (Wp.seq (Wp.region (Kn (v := .pointer (some ⟨g24, 0, none⟩)) rfl rfl rfl (fun _ => by kernel_rfl) (WL.val (v := .bool p0.xLeaf) rfl (Yl.load rfl (Lds.one Tryz.isAgg4 (Cls.of (H26.cls (i := 0) rfl) rfl))) (Kn (v := .bool (!p0.xLeaf)) rfl rfl rfl (fun _ => by kernel_rfl) (Mv rfl rfl (Sk rfl rfl (congrArg not h27) rfl (Sk rfl rfl (congrArg not h27) rfl (Sk rfl rfl (congrArg not h27) rfl (Sk rfl rfl (congrArg not h27) rfl (WL.val (v := .bool false) rfl (Yl.pickF rfl (congrArg not h27) rfl) (As rfl rfl (WL.nil (Fin.then (Wp.cond0 rfl rfl (Wp.skip (Fin.blockN (Fin.then (Wp.seq ?_)))))))))))))))))))
  have H74 := H26.pick [1] (by decide) rfl
  refine Wp.region (As rfl rfl (WL.nil (Fin.then (Wp.ret (Fin.res (res1 rfl rfl) (As rfl rfl (WL.nil (Fin.then (Wp.seq (Wp.seq (Wp.region (Mv rfl rfl ?_))))))))))))
  refine WL.do rfl (Do.call Tryz.call20 rfl ?_ (fun _ _ k => k))
  refine Calls.body (args := [.nilIface]) Tryz.func20 rfl rfl rfl ?_
  show Wp _ _ _ [(0, .nilIface)] _ _
  refine Wp.seq (Wp.region (As rfl rfl (WL.nil (Fin.then (Wp.seq (Wp.seq (Wp.region (Mv rfl rfl (WL.nil (Fin.then (Wp.block (Wp.seq (Wp.region (Kn (v := .tuple #[.agg #[.slice none 0 0], .bool false]) rfl rfl rfl (fun _ => by kernel_rfl) (Kn (v := .bool false) rfl rfl rfl (fun _ => by kernel_rfl) (Kn (v := .agg #[.slice none 0 0]) rfl rfl rfl (fun _ => by kernel_rfl) (WL.nil (Fin.then (Wp.cond0 rfl rfl (Wp.seq (Wp.region (Kn (v := .tuple #[.agg #[.slice none 0 0, .slice none 0 0, .slice none 0 0], .bool false]) rfl rfl rfl (fun _ => by kernel_rfl) (Kn (v := .bool false) rfl rfl rfl (fun _ => by kernel_rfl) (Kn (v := .agg #[.slice none 0 0, .slice none 0 0, .slice none 0 0]) rfl rfl rfl (fun _ => by kernel_rfl) (WL.nil (Fin.then (Wp.cond0 rfl rfl (Wp.skip (Fin.blockN (Fin.then (Wp.seq (Wp.region (As rfl rfl (WL.nil (Fin.then (Wp.ret (Fin.res (res1 rfl rfl) (As rfl rfl (WL.nil ?_)))))))))))))))))))))))))))))))))))))))
  refine Fin.then (Wp.seq (Wp.region (Mv rfl rfl (Kn (v := .bool true) rfl rfl rfl (fun _ => by kernel_rfl) (WL.nil (Fin.then (Wp.cond1 rfl rfl (Wp.seq (Wp.region (Mv rfl rfl (As rfl rfl (As rfl rfl (WL.nil (Fin.then (Wp.ret (Fin.thenR (Fin.res (res2 rfl rfl rfl) ?_)))))))))))))))))
  have H75 : Own w D w25 [row none 0 0 (List.flatMap eB ([])) 5 1, blk g21 [.bool p0.xLeaf, .slice A0x0 p0.xPairs.ls.length c0x0, .slice A0x1 p0.xKids.ls.length c0x1, .slice A0x2 p0.xPivots.ls.length c0x2, .slice A0x3 p0.xBuffers.ls.length c0x3] 27] := H74.free (row_nil 5 1)
  have H76 := H75.pick [0] (by decide) rfl
  have e : node_Encode p0 = ([], 130) := Eq.trans (if_pos h27) (if_neg h28)
  obtain ⟨rfl, rfl⟩ := pj2 (e.symm.trans hr)
  exact ⟨none, 0, rfl, H76, (by first | omega | exact Nat.zero_le _)⟩
  refine Sk rfl rfl h27 rfl (Sk rfl rfl h27 rfl (Sk rfl rfl h27 rfl (Sk rfl rfl h27 rfl (Sk rfl rfl h27 rfl (Sk rfl rfl h27 rfl (Sk rfl rfl h27 rfl (Sk rfl rfl h27 rfl (Sk rfl rfl h27 rfl (Sk rfl rfl h27 rfl (Sk rfl rfl h27 rfl (Sk rfl rfl h27 rfl (WL.val (v := .bool false) rfl (Yl.pickF rfl h27 rfl) (As rfl rfl (WL.nil (Fin.then (Wp.cond0 rfl rfl (Wp.seq (Wp.region (Kn (v := .pointer (some ⟨g24, 0, none⟩)) rfl rfl rfl (fun _ => by kernel_rfl) (WL.val (v := .bool p0.xLeaf) rfl (Yl.load rfl (Lds.one Tryz.isAgg4 (Cls.of (H26.cls (i := 0) rfl) rfl))) (Kn (v := .bool (!p0.xLeaf)) rfl rfl rfl (fun _ => by kernel_rfl) (Mv rfl rfl (WL.valG (v := .pointer (some ⟨g24, 1, none⟩)) rfl rfl (congrArg not h27) rfl (Yl.kern rfl rfl (fun _ => by kernel_rfl)) (WL.valG (v := .slice A0x0 p0.xPairs.ls.length c0x0) rfl rfl (congrArg not h27) rfl (Yl.load rfl (Lds.one Tryz.isAgg22 (Cls.of (H26.cls (i := 0) rfl) rfl))) (WL.valG (v := .int .i64 ((p0.xPairs.ls.length : Nat) : Int)) rfl rfl (congrArg not h27) rfl (Yl.kern rfl rfl (fun _ => by kernel_rfl)) (WL.valG (v := .bool (decide (((p0.xPairs.ls.length : Nat) : Int) = 0))) rfl rfl (congrArg not h27) rfl (Yl.kern rfl rfl (fun _ => by kernel_rfl)) (WL.val (v := .bool (decide (((p0.xPairs.ls.length : Nat) : Int) = 0))) rfl (Yl.pickT rfl (congrArg not h27) rfl) (As rfl rfl (WL.nil (Fin.then ?_))))))))))))))))))))))))))))))
  by_cases h78 : ((p0.xPairs.ls.length : Nat) : Int) = 0
  refine Wp.cond1 rfl (decide_eq_true h78) (Wp.seq (Wp.region (Kn (v := .pointer (some ⟨g24, 2, none⟩)) rfl rfl rfl (fun _ => by kernel_rfl) (WL.val (v := .slice A0x1 p0.xKids.ls.length c0x1) rfl (Yl.load rfl (Lds.one Tryz.isAgg23 (Cls.of (H26.cls (i := 0) rfl) rfl))) (Kn (v := .pointer (some ⟨g24, 3, none⟩)) rfl rfl rfl (fun _ => by kernel_rfl) (WL.val (v := .slice A0x2 p0.xPivots.ls.length c0x2) rfl (Yl.load rfl (Lds.one Tryz.isAgg24 (Cls.of (H26.cls (i := 0) rfl) rfl))) (Kn (v := .pointer (some ⟨g24, 4, none⟩)) rfl rfl rfl (fun _ => by kernel_rfl) (WL.val (v := .slice A0x3 p0.xBuffers.ls.length c0x3) rfl (Yl.load rfl (Lds.one Tryz.isAgg25 (Cls.of (H26.cls (i := 0) rfl) rfl))) (Kn (v := .agg #[.slice A0x1 p0.xKids.ls.length c0x1, .slice A0x2 p0.xPivots.ls.length c0x2, .slice A0x3 p0.xBuffers.ls.length c0x3]) rfl rfl rfl (fun _ => by kernel_rfl) (Kn (v := .iface 76 (.agg #[.slice A0x1 p0.xKids.ls.length c0x1, .slice A0x2 p0.xPivots.ls.length c0x2, .slice A0x3 p0.xBuffers.ls.length c0x3])) rfl rfl rfl (fun _ => by kernel_rfl) (As rfl rfl (WL.nil (Fin.then (Wp.ret (Fin.blockR (Fin.thenR (Fin.res (res1 rfl rfl) (As rfl rfl (WL.nil (Fin.then (Wp.seq (Wp.seq ?_))))))))))))))))))))))
  have H79 := H26.pick [] (by decide) rfl
  refine Wp.region (Mv rfl rfl ?_)
  refine WL.do rfl (Do.call Tryz.call20 rfl ?_ (fun _ _ k => k))
  refine Calls.body (args := [.iface 76 (.agg #[.slice A0x1 p0.xKids.ls.length c0x1, .slice A0x2 p0.xPivots.ls.length c0x2, .slice A0x3 p0.xBuffers.ls.length c0x3])]) Tryz.func20 rfl rfl rfl ?_
  show Wp _ _ _ [(0, .iface 76 (.agg #[.slice A0x1 p0.xKids.ls.length c0x1, .slice A0x2 p0.xPivots.ls.length c0x2, .slice A0x3 p0.xBuffers.ls.length c0x3]))] _ _
  refine Wp.seq (Wp.region (As rfl rfl (WL.nil (Fin.then (Wp.seq (Wp.seq (Wp.region (Mv rfl rfl (WL.nil (Fin.then (Wp.block (Wp.seq (Wp.region (Kn (v := .tuple #[.agg #[.slice none 0 0], .bool false]) rfl rfl rfl (fun _ => by kernel_rfl) (Kn (v := .bool false) rfl rfl rfl (fun _ => by kernel_rfl) (Kn (v := .agg #[.slice none 0 0]) rfl rfl rfl (fun _ => by kernel_rfl) (WL.nil (Fin.then (Wp.cond0 rfl rfl (Wp.seq (Wp.region (Kn (v := .tuple #[.agg #[.slice A0x1 p0.xKids.ls.length c0x1, .slice A0x2 p0.xPivots.ls.length c0x2, .slice A0x3 p0.xBuffers.ls.length c0x3], .bool true]) rfl rfl rfl (fun _ => by kernel_rfl) (Kn (v := .bool true) rfl rfl rfl (fun _ => by kernel_rfl) (Kn (v := .agg #[.slice A0x1 p0.xKids.ls.length c0x1, .slice A0x2 p0.xPivots.ls.length c0x2, .slice A0x3 p0.xBuffers.ls.length c0x3]) rfl rfl rfl (fun _ => by kernel_rfl) (WL.nil (Fin.then (Wp.cond1 rfl rfl (Wp.seq (Wp.region ?_)))))))))))))))))))))))))))))
  refine WL.do rfl (Do.newP (cs := [.slice none 0 0, .slice none 0 0, .slice none 0 0]) (t := 76) H79 rfl rfl (fun _ => by kernel_rfl) ?_)
  intro g80 w81 H82
  refine WL.do0 (Do.store (vs := [.slice A0x1 p0.xKids.ls.length c0x1, .slice A0x2 p0.xPivots.ls.length c0x2, .slice A0x3 p0.xBuffers.ls.length c0x3]) (o := 0) H82 rfl rfl Tryz.sizeOf76 rfl rfl rfl rfl ?_)
  intro w83 H84
  refine WL.nil (Fin.then (Wp.seq (Wp.region (WL.val (v := .agg #[.slice A0x1 p0.xKids.ls.length c0x1, .slice A0x2 p0.xPivots.ls.length c0x2, .slice A0x3 p0.xBuffers.ls.length c0x3]) rfl (Yl.load rfl (Lds.agg (cs := [.slice A0x1 p0.xKids.ls.length c0x1, .slice A0x2 p0.xPivots.ls.length c0x2, .slice A0x3 p0.xBuffers.ls.length c0x3]) Tryz.isAgg76 Tryz.sizeOf76 ((H84.cls (i := 0) rfl).lit (k := 0) (m := 3) rfl))) ?_))))
  obtain ⟨r90, hr91⟩ : ∃ q, node_stem_check (stemT.mk (Ll.mk p0.xKids.ls) (Ll.mk p0.xPivots.ls) (Ll.mk p0.xBuffers.ls)) = q := ⟨_, rfl⟩
  obtain ⟨D85, HP86, ro87, bk88, rr89⟩ := Own.enter0 H84
  refine WL.do rfl (Do.call Tryz.call36 rfl (node_stem_check_ok _ _ (stemT.mk (Ll.mk p0.xKids.ls) (Ll.mk p0.xPivots.ls) (Ll.mk p0.xBuffers.ls)) A0x1 p0.xKids.ls.length c0x1 A0x2 p0.xPivots.ls.length c0x2 A0x3 p0.xBuffers.ls.length c0x3 d0x3 r90 HP86 rfl (ro87 _ hx0x1) (by first | exact ⟨Nat.le_of_ble_eq_true rfl, Nat.le_of_ble_eq_true rfl⟩ | omega | exact ⟨Nat.le_refl _, by omega⟩) rfl (ro87 _ hx0x2) (by first | exact ⟨Nat.le_of_ble_eq_true rfl, Nat.le_of_ble_eq_true rfl⟩ | omega | exact ⟨Nat.le_refl _, by omega⟩) hd0x3 rfl (ro87 _ hx0x3) (by first | exact ⟨Nat.le_of_ble_eq_true rfl, Nat.le_of_ble_eq_true rfl⟩ | omega | exact ⟨Nat.le_refl _, by omega⟩) (fun x9 h9 => ⟨ro87 _ (hm0x3 x9 h9).1, (hm0x3 x9 h9).2⟩) hr91) ?_)
  rintro _ w92 ⟨rfl, HQ93, hk95⟩
  have H94 := bk88 _ _ HQ93
  replace hk95 : ¬ (r90 = 0) ∨ (List.length (stemT.mk (Ll.mk p0.xKids.ls) (Ll.mk p0.xPivots.ls) (Ll.mk p0.xBuffers.ls)).xkids.ls ≤ 8 ∧ List.length (stemT.mk (Ll.mk p0.xKids.ls) (Ll.mk p0.xPivots.ls) (Ll.mk p0.xBuffers.ls)).xpivots.ls ≤ 8 ∧ List.length (stemT.mk (Ll.mk p0.xKids.ls) (Ll.mk p0.xPivots.ls) (Ll.mk p0.xBuffers.ls)).xbuffers.ls ≤ 8) := hk95
  refine As rfl rfl (WL.nil (Fin.then (Wp.ret (Fin.blockR (Fin.thenR (Fin.res (res1 rfl rfl) (As rfl rfl (WL.nil (Fin.then (Wp.seq (Wp.region (Mv rfl rfl (WL.val (v := .bool (decide (¬ (r90 = 0)))) rfl (Yl.bool (e := !(decide (r90 = 0))) (Yl.kern rfl rfl (fun _ => by kernel_rfl)) decide_not.symm) (WL.nil (Fin.then ?_)))))))))))))))
  by_cases h96 : r90 = 0
  refine Wp.cond0 rfl (decide_eq_false (not_not_intro h96)) (Wp.skip (Fin.then (Wp.seq (Wp.region (Mv rfl rfl ?_)))))
  refine WL.do rfl (Do.call Tryz.call21 rfl ?_ (fun _ _ k => k))
  refine Calls.body (args := [.iface 76 (.agg #[.slice A0x1 p0.xKids.ls.length c0x1, .slice A0x2 p0.xPivots.ls.length c0x2, .slice A0x3 p0.xBuffers.ls.length c0x3])]) Tryz.func21 rfl rfl rfl ?_
  show Wp _ _ _ [(0, .iface 76 (.agg #[.slice A0x1 p0.xKids.ls.length c0x1, .slice A0x2 p0.xPivots.ls.length c0x2, .slice A0x3 p0.xBuffers.ls.length c0x3]))] _ _
  refine Wp.seq (Wp.region (As rfl rfl (WL.nil (Fin.then (Wp.seq (Wp.seq (Wp.region (Mv rfl rfl (WL.nil (Fin.then (Wp.block (Wp.seq (Wp.region (Kn (v := .tuple #[.agg #[.slice none 0 0], .bool false]) rfl rfl rfl (fun _ => by kernel_rfl) (Kn (v := .bool false) rfl rfl rfl (fun _ => by kernel_rfl) (Kn (v := .agg #[.slice none 0 0]) rfl rfl rfl (fun _ => by kernel_rfl) (WL.nil (Fin.then (Wp.cond0 rfl rfl (Wp.seq (Wp.region (Kn (v := .tuple #[.agg #[.slice A0x1 p0.xKids.ls.length c0x1, .slice A0x2 p0.xPivots.ls.length c0x2, .slice A0x3 p0.xBuffers.ls.length c0x3], .bool true]) rfl rfl rfl (fun _ => by kernel_rfl) (Kn (v := .bool true) rfl rfl rfl (fun _ => by kernel_rfl) (Kn (v := .agg #[.slice A0x1 p0.xKids.ls.length c0x1, .slice A0x2 p0.xPivots.ls.length c0x2, .slice A0x3 p0.xBuffers.ls.length c0x3]) rfl rfl rfl (fun _ => by kernel_rfl) (WL.nil (Fin.then (Wp.cond1 rfl rfl (Wp.seq (Wp.region ?_)))))))))))))))))))))))))))))
  refine WL.do rfl (Do.newP (cs := [.slice none 0 0, .slice none 0 0, .slice none 0 0]) (t := 76) H94 rfl rfl (fun _ => by kernel_rfl) ?_)
  intro g97 w98 H99
  refine WL.do0 (Do.store (vs := [.slice A0x1 p0.xKids.ls.length c0x1, .slice A0x2 p0.xPivots.ls.length c0x2, .slice A0x3 p0.xBuffers.ls.length c0x3]) (o := 0) H99 rfl rfl Tryz.sizeOf76 rfl rfl rfl rfl ?_)
  intro w100 H101
  refine WL.nil (Fin.then (Wp.seq ?_))
  have H102 := H101.pick [0] (by decide) rfl
  refine Wp.region (WL.val (v := .agg #[.slice A0x1 p0.xKids.ls.length c0x1, .slice A0x2 p0.xPivots.ls.length c0x2, .slice A0x3 p0.xBuffers.ls.length c0x3]) rfl (Yl.load rfl (Lds.agg (cs := [.slice A0x1 p0.xKids.ls.length c0x1, .slice A0x2 p0.xPivots.ls.length c0x2, .slice A0x3 p0.xBuffers.ls.length c0x3]) Tryz.isAgg76 Tryz.sizeOf76 ((H102.cls (i := 0) rfl).lit (k := 0) (m := 3) rfl))) ?_)
  obtain ⟨r108, hr109⟩ : ∃ q, node_stem_write (stemT.mk (Ll.mk p0.xKids.ls) (Ll.mk p0.xPivots.ls) (Ll.mk p0.xBuffers.ls)) = q := ⟨_, rfl⟩
  obtain ⟨D103, HP104, ro105, bk106, rr107⟩ := Own.enter0 H102
  refine WL.do rfl (Do.call Tryz.call38 rfl (node_stem_write_ok _ _ (stemT.mk (Ll.mk p0.xKids.ls) (Ll.mk p0.xPivots.ls) (Ll.mk p0.xBuffers.ls)) A0x1 p0.xKids.ls.length c0x1 A0x2 p0.xPivots.ls.length c0x2 A0x3 p0.xBuffers.ls.length c0x3 d0x3 r108 HP104 rfl (ro105 _ hx0x1) (by first | exact ⟨Nat.le_of_ble_eq_true rfl, Nat.le_of_ble_eq_true rfl⟩ | omega | exact ⟨Nat.le_refl _, by omega⟩) rfl (ro105 _ hx0x2) (by first | exact ⟨Nat.le_of_ble_eq_true rfl, Nat.le_of_ble_eq_true rfl⟩ | omega | exact ⟨Nat.le_refl _, by omega⟩) hd0x3 rfl (ro105 _ hx0x3) (by first | exact ⟨Nat.le_of_ble_eq_true rfl, Nat.le_of_ble_eq_true rfl⟩ | omega | exact ⟨Nat.le_refl _, by omega⟩) (fun x9 h9 => ⟨ro105 _ (hm0x3 x9 h9).1, (hm0x3 x9 h9).2⟩) (by exact ⟨by omega, by omega, ⟨by omega, hh0.2.1⟩, hh0.2.2⟩) hr109) ?_)
  rintro _ w110 ⟨A113, c114, rfl, HQ111, hk115⟩
  have H112 := bk106 _ _ HQ111
  have hb116 := H112.rowC (i := 0) rfl
  replace hk115 : r108.length ≤ 17592454480123 := hk115
  refine As rfl rfl (WL.nil (Fin.then (Wp.ret (Fin.blockR (Fin.thenR (Fin.res (res1 rfl rfl) (As rfl rfl (WL.nil (Fin.then (Wp.seq (Wp.seq ?_)))))))))))
  have H117 := H112.pick [0] (by decide) rfl
  refine Wp.region (Mv rfl rfl (Kn (v := .int .i64 ((r108.length : Nat) : Int)) rfl rfl rfl (fun _ => by kernel_rfl) (Kn (v := .bool (decide (((r108.length : Nat) : Int) > 480))) rfl rfl rfl (fun _ => by kernel_rfl) (WL.nil (Fin.then ?_)))))
  by_cases h118 : ((r108.length : Nat) : Int) > 480
  refine Wp.cond1 rfl (decide_eq_true h118) (Wp.seq (Wp.region (As rfl rfl (As rfl rfl (WL.nil (Fin.then (Wp.ret (Fin.thenR (Fin.res (res2 rfl rfl rfl) ?_)))))))))
  have H119 : Own w D w110 [row none 0 0 (List.flatMap eB ([])) 5 1, row A113 r108.length c114 (List.flatMap eB r108) 5 1] := H117.free (row_nil 5 1)
  have H120 := H119.pick [0] (by decide) rfl
  have e : node_Encode p0 = ([], 2) := Eq.trans (ifF h27) (Eq.trans (if_pos h78) (Eq.trans (bnd_of hr91) (Eq.trans (if_pos h96) (Eq.trans (bnd_of hr109) (if_pos h118)))))
  obtain ⟨rfl, rfl⟩ := pj2 (e.symm.trans hr)
  exact ⟨none, 0, rfl, H120, (by first | omega | exact Nat.zero_le _)⟩
  refine Wp.cond0 rfl (decide_eq_false h118) (Wp.skip (Fin.then (Wp.seq (Wp.region (Mv rfl rfl (As rfl rfl (As rfl rfl (WL.nil (Fin.then (Wp.ret (Fin.res (res2 rfl rfl rfl) ?_)))))))))))
  have H121 := H117.pick [0] (by decide) rfl
  have e : node_Encode p0 = (r108, 0) := Eq.trans (ifF h27) (Eq.trans (if_pos h78) (Eq.trans (bnd_of hr91) (Eq.trans (if_pos h96) (Eq.trans (bnd_of hr109) (if_neg h118)))))
  obtain ⟨rfl, rfl⟩ := pj2 (e.symm.trans hr)
  exact ⟨A113, c114, rfl, H121, (by first | omega | exact Nat.zero_le _)⟩
  refine Wp.cond1 rfl (decide_eq_true h96) (Wp.seq (Wp.region (Mv rfl rfl (As rfl rfl (As rfl rfl (WL.nil (Fin.then (Wp.ret (Fin.thenR (Fin.res (res2 rfl rfl rfl) ?_))))))))))
  have H122 : Own w D w92 [row none 0 0 (List.flatMap eB ([])) 5 1, blk g80 [.slice A0x1 p0.xKids.ls.length c0x1, .slice A0x2 p0.xPivots.ls.length c0x2, .slice A0x3 p0.xBuffers.ls.length c0x3] 76] := H94.free (row_nil 5 1)
  have H123 := H122.pick [0] (by decide) rfl
  have e : node_Encode p0 = ([], r90) := Eq.trans (ifF h27) (Eq.trans (if_pos h78) (Eq.trans (bnd_of hr91) (if_neg h96)))
  obtain ⟨rfl, rfl⟩ := pj2 (e.symm.trans hr)
  exact ⟨none, 0, rfl, H123, (by first | omega | exact Nat.zero_le _)⟩
  refine Wp.cond0 rfl (decide_eq_false h78) (Wp.skip (Fin.blockN (Fin.then (Wp.seq ?_))))
  have H124 := H26.pick [1] (by decide) rfl
  refine Wp.region (As rfl rfl (WL.nil (Fin.then (Wp.ret (Fin.res (res1 rfl rfl) (As rfl rfl (WL.nil (Fin.then (Wp.seq (Wp.seq (Wp.region (Mv rfl rfl ?_))))))))))))
  refine WL.do rfl (Do.call Tryz.call20 rfl ?_ (fun _ _ k => k))
  refine Calls.body (args := [.nilIface]) Tryz.func20 rfl rfl rfl ?_
  show Wp _ _ _ [(0, .nilIface)] _ _
  refine Wp.seq (Wp.region (As rfl rfl (WL.nil (Fin.then (Wp.seq (Wp.seq (Wp.region (Mv rfl rfl (WL.nil (Fin.then (Wp.block (Wp.seq (Wp.region (Kn (v := .tuple #[.agg #[.slice none 0 0], .bool false]) rfl rfl rfl (fun _ => by kernel_rfl) (Kn (v := .bool false) rfl rfl rfl (fun _ => by kernel_rfl) (Kn (v := .agg #[.slice none 0 0]) rfl rfl rfl (fun _ => by kernel_rfl) (WL.nil (Fin.then (Wp.cond0 rfl rfl (Wp.seq (Wp.region (Kn (v := .tuple #[.agg #[.slice none 0 0, .slice none 0 0, .slice none 0 0], .bool false]) rfl rfl rfl (fun _ => by kernel_rfl) (Kn (v := .bool false) rfl rfl rfl (fun _ => by kernel_rfl) (Kn (v := .agg #[.slice none 0 0, .slice none 0 0, .slice none 0 0]) rfl rfl rfl (fun _ => by kernel_rfl) (WL.nil (Fin.then (Wp.cond0 rfl rfl (Wp.skip (Fin.blockN (Fin.then (Wp.seq (Wp.region (As rfl rfl (WL.nil (Fin.then (Wp.ret (Fin.res (res1 rfl rfl) (As rfl rfl (WL.nil ?_)))))))))))))))))))))))))))))))))))))))
  refine Fin.then (Wp.seq (Wp.region (Mv rfl rfl (Kn (v := .bool true) rfl rfl rfl (fun _ => by kernel_rfl) (WL.nil (Fin.then (Wp.cond1 rfl rfl (Wp.seq (Wp.region (Mv rfl rfl (As rfl rfl (As rfl rfl (WL.nil (Fin.then (Wp.ret (Fin.thenR (Fin.res (res2 rfl rfl rfl) ?_)))))))))))))))))
  have H125 : Own w D w25 [row none 0 0 (List.flatMap eB ([])) 5 1, blk g21 [.bool p0.xLeaf, .slice A0x0 p0.xPairs.ls.length c0x0, .slice A0x1 p0.xKids.ls.length c0x1, .slice A0x2 p0.xPivots.ls.length c0x2, .slice A0x3 p0.xBuffers.ls.length c0x3] 27] := H124.free (row_nil 5 1)
  have H126 := H125.pick [0] (by decide) rfl
  have e : node_Encode p0 = ([], 130) := Eq.trans (ifF h27) (if_neg h78)
  obtain ⟨rfl, rfl⟩ := pj2 (e.symm.trans hr)
  exact ⟨none, 0, rfl, H126, (by first | omega | exact Nat.zero_le _)⟩

end Go.Proofs.YtfkkipmdnjfocaaGreat
