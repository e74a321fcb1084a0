/-
 frame: bodies as datagrams, and back.
-/
import Derived.Test.YtccjclalngabhaaGreatWiS
import Derived.Test.YtccjclalngabhaaGreatKy
namespace Go.Proofs.YtccjclalngabhaaGreat
open Go.RowKit
set_option linter.unusedVariables false
set_option linter.unusedSectionVars false
set_option linter.unusedSimpArgs false
theorem El31 : Elem Tryz.prog 31 5 1 1 := elem_of (z := .int .u8 0) Tryz.underlying31 (by kernel_rfl) rfl (by decide)
set_option maxRecDepth 100000 in
theorem octet_Sum_ok (w : World) (D : Nat → Prop) (A0 : Option Addr) (n0 c0 : Nat) (l0 : List UInt8) (r0 : Nat) (H : Own w D w []) (hx0 : Ro w D fun w' => Rds w' 1 A0 n0 (List.flatMap eB l0)) (hn0 : n0 = l0.length) (hl0 : l0.length ≤ 9223372036854775807) (hh0 : l0.length ≤ 140737488355328) (hr : octet_Sum l0 = r0) :
    Calls Tryz.prog 53 #[.slice A0 n0 c0] w (Ret fun v w' => v = .int .u32 ((r0 : Nat) : Int) ∧ Own w D w' [] ∧ (r0 ≤ 4294967295)) := by
 subst hn0
 refine (Z.Sum_any c0 _ A0 l0 w (by unfold maxLen; omega) (byt_of (H.ro hx0))).mono fun e w' h => ?_
 obtain ⟨he, hb⟩ := h
 subst hr
 exact ⟨_, he, rfl, H.grown hb, Nat.le_of_lt_succ (Z.sum_lt l0)⟩
def octet_Num_L0 : Nat → Nat → List UInt8 → Nat × (List UInt8)
  | 0, k24, l27 => default
  | q28 + 1, k24, l27 => if ((k24 : Nat) : Int) ≥ 128 then octet_Num_L0 q28 (k24 / 128) (l27 ++ [((UInt8.ofNat k24) ||| (128 : UInt8))]) else (k24, l27)
def octet_Num (p0 : Nat) : (List UInt8) :=
 bnd (octet_Num_L0 (p0 + 1) p0 ([])) fun sLrL => (sLrL.2 ++ [(UInt8.ofNat sLrL.1)])
set_option maxRecDepth 100000 in
theorem octet_Num_ok (w : World) (D : Nat → Prop) (p0 : Nat) (r0 : List UInt8) (H : Own w D w []) (hh0 : p0 ≤ 18446744073709551615) (hr : octet_Num p0 = r0) :
    Calls Tryz.prog 51 #[.int .u64 ((p0 : Nat) : Int)] w (Ret fun v w' => ∃ (B0 : Option Addr) (b0 : Nat), v = .slice B0 r0.length b0 ∧ Own w D w' [row B0 r0.length b0 (List.flatMap eB r0) 5 1] ∧ (1 ≤ r0.length ∧ r0.length ≤ 10) ∧ (p0 ≥ 128 ∨ r0.length = 1)) := by
 refine Calls.body (args := [.int .u64 ((p0 : Nat) : Int)]) Tryz.func51 rfl rfl rfl ?_
 show Wp _ _ _ [(0, .int .u64 ((p0 : Nat) : Int))] _ _
 refine sr (Ar rfl ?_)
 refine WL.do rfl (Do.makeC (m := 10) (size := 1) (bytes := 1) (z := .int .u8 0) Tryz.underlying31 (by kernel_rfl) H rfl rfl (by omega) (by unfold maxLen; omega) ?_)
 intro A21 w22 H23
 refine An rfl (Wp.seq (bo ?_))
 have H30 := H23.pk [0]
 obtain ⟨I34, hI35⟩ : ∃ q : (Nat × (Option Addr) × Nat × (List UInt8) × Nat) → World → Prop, q = fun (i : Nat × (Option Addr) × Nat × (List UInt8) × Nat) w' => Own w D w' [row i.2.1 i.2.2.2.1.length i.2.2.1 (List.flatMap eB i.2.2.2.1) 5 1] ∧ (NumInv i.2.2.2.1.length i.1 ∧ i.2.2.2.1.length ≤ 9 ∧ (p0 ≥ 128 ∨ (i.2.2.2.1.length = 0 ∧ i.1 = p0)) ∧ i.1 < i.2.2.2.2 ∧ octet_Num_L0 (p0 + 1) p0 ([]) = octet_Num_L0 i.2.2.2.2 i.1 i.2.2.2.1) := ⟨_, rfl⟩
 have dm36 : ∀ {k24 : Nat} {A25 : Option Addr} {c26 : Nat} {l27 : List UInt8} {f29 : Nat} {w' : World}, I34 (k24, A25, c26, l27, f29) w' ↔ Own w D w' [row A25 l27.length c26 (List.flatMap eB l27) 5 1] ∧ NumInv l27.length k24 ∧ l27.length ≤ 9 ∧ (p0 ≥ 128 ∨ (l27.length = 0 ∧ k24 = p0)) ∧ k24 < f29 ∧ octet_Num_L0 (p0 + 1) p0 ([]) = octet_Num_L0 f29 k24 l27 := by intros; subst hI35; exact Iff.rfl
 refine Wp.loop (fun i : Nat × (Option Addr) × Nat × (List UInt8) × Nat => [(0, .int .u64 ((i.1 : Nat) : Int)), (3, .slice i.2.1 i.2.2.2.1.length i.2.2.1), (2, .slice none 0 0)]) I34 (fun i => i.2.2.2.2) (p0, A21, 10, [], p0 + 1) ⟨rfl, rfl, rfl, trivial⟩ (dm36.2 ⟨H30, (show NumInv (0) p0 ∧ 0 ≤ 9 ∧ (p0 ≥ 128 ∨ (0 = 0 ∧ p0 = p0)) ∧ p0 < (p0 + 1) ∧ octet_Num_L0 (p0 + 1) p0 ([]) = octet_Num_L0 (p0 + 1) p0 ([]) from ⟨by first | exact NumInv.zero hh0 | exact NumInv.step (by assumption) (by simp only [List.length_append, List.length_cons, List.length_nil]), by first | exact Nat.zero_le _ | (have q9 := NumInv.le (by assumption) (by omega); simp only [List.length_append, List.length_cons, List.length_nil]; omega), by omega, by omega, rfl⟩)⟩) ?_
 rintro ⟨k24, A25, c26, l27, f29⟩ w31 hf33
 show Wp _ _ _ [(0, .int .u64 ((k24 : Nat) : Int)), (3, .slice A25 l27.length c26), (2, .slice none 0 0)] _ _
 obtain ⟨H32, hi38, hi39, hi40, hi41, hq37⟩ := dm36.1 hf33
 obtain ⟨f42, hf43⟩ : ∃ q, f29 = q + 1 := ⟨f29 - 1, by omega⟩
 subst hf43
 refine Wp.seq (sr (Mz rfl (Kz (.bool (decide (((k24 : Nat) : Int) ≥ 128))) (nt ?_))))
 by_cases h44 : ((k24 : Nat) : Int) ≥ 128
 refine jT (dT h44) (sk (bo (sr (Mz rfl (Mz rfl (fw (.int .u8 (((UInt8.ofNat k24).toNat : Nat) : Int)) (Yl.int (e := IntKind.u8.wrap ((k24 : Nat) : Int)) yk (u8_wrap _)) (fw (.int .u8 ((((UInt8.ofNat k24) ||| (128 : UInt8)).toNat : Nat) : Int)) (Yl.int (e := IntKind.u8.wrap (((BitVec.ofInt 8 (((UInt8.ofNat k24).toNat : Nat) : Int) ||| BitVec.ofInt 8 128).toNat : Nat) : Int)) yk (u8_or (UInt8.ofNat k24) (128 : UInt8))) ?_)))))))
 refine nrw [.int .u8 ((((UInt8.ofNat k24) ||| (128 : UInt8)).toNat : Nat) : Int)] 5 1 1 H32 ?_
 intro A45 w46 H47
 replace H47 := Own.reh (y := row A45 1 1 (List.flatMap eB ([((UInt8.ofNat k24) ||| (128 : UInt8))])) 5 1) rfl H47
 have H48 := H47.pk [1, 0]
 refine WL.do rfl (Do.appendW (k := l27.length) (m := 1) (El31) H48 rfl rfl (src_of Tryz.underlying31 (H48.rds (i := 1) rfl) (flat_one eB_one ([((UInt8.ofNat k24) ||| (128 : UInt8))]))) rfl (by omega) (s := List.length (l27 ++ [((UInt8.ofNat k24) ||| (128 : UInt8))])) (by first | omega | (simp only [List.length_append, List.length_cons, List.length_nil] <;> omega)) (List.flatMap_append).symm ?_)
 intro A49 c50 w51 H52
 have hl53 : List.length (l27 ++ [((UInt8.ofNat k24) ||| (128 : UInt8))]) = l27.length + 1 := by simp only [List.length_append, List.length_cons, List.length_nil]
 refine An rfl (Wp.region (Mz rfl (fw (.int .u64 ((k24 / 128 : Nat) : Int)) (Yl.int (e := Int.fdiv ((k24 : Nat) : Int) 128) yk (shr_nat _ 7 _ (by decide))) (Az rfl (WL.nil (bN ?_))))))
 have H54 := H52.pk [0]
 exact Fin.round (k24 / 128, A49, c50, (l27 ++ [((UInt8.ofNat k24) ||| (128 : UInt8))]), f42) ⟨rfl, rfl, rfl, trivial⟩ (dm36.2 ⟨H54, by first | exact NumInv.zero hh0 | exact NumInv.step (by assumption) (by simp only [List.length_append, List.length_cons, List.length_nil]), by first | exact Nat.zero_le _ | (have q9 := NumInv.le (by assumption) (by omega); simp only [List.length_append, List.length_cons, List.length_nil]; omega), by omega, by omega, Eq.trans (hq37) (if_pos h44)⟩) (by show f42 < f42 + 1; omega)
 refine jF (dF h44) (Wp.exit (Fin.thenX ?_))
 have hL55 : octet_Num_L0 (p0 + 1) p0 ([]) = (k24, l27) := et (hq37) (iN h44)
 refine Fin.thenX (Fin.blockX (Fin.then (sr (Mz rfl (Mz rfl (fw (.int .u8 (((UInt8.ofNat k24).toNat : Nat) : Int)) (Yl.int (e := IntKind.u8.wrap ((k24 : Nat) : Int)) yk (u8_wrap _)) ?_))))))
 refine nrw [.int .u8 (((UInt8.ofNat k24).toNat : Nat) : Int)] 5 1 1 H32 ?_
 intro A56 w57 H58
 replace H58 := Own.reh (y := row A56 1 1 (List.flatMap eB ([(UInt8.ofNat k24)])) 5 1) rfl H58
 have H59 := H58.pk [1, 0]
 refine WL.do rfl (Do.appendW (k := l27.length) (m := 1) (El31) H59 rfl rfl (src_of Tryz.underlying31 (H59.rds (i := 1) rfl) (flat_one eB_one ([(UInt8.ofNat k24)]))) rfl (by omega) (s := List.length (l27 ++ [(UInt8.ofNat k24)])) (by first | omega | (simp only [List.length_append, List.length_cons, List.length_nil] <;> omega)) (List.flatMap_append).symm ?_)
 intro A60 c61 w62 H63
 have hl64 : List.length (l27 ++ [(UInt8.ofNat k24)]) = l27.length + 1 := by simp only [List.length_append, List.length_cons, List.length_nil]
 refine An rfl (rt (rs ?_))
 have H65 := H63.pk [0]
 obtain rfl : _ = (l27 ++ [(UInt8.ofNat k24)]) := hr.symm.trans (bnd_of hL55)
 exact ⟨A60, c61, rfl, H65, (by first | omega | (simp only [List.length_cons, List.length_nil, List.length_append]; omega)), (by first | omega | (simp only [List.length_cons, List.length_nil, List.length_append]; omega))⟩
def frame_Seal (l0 : List UInt8) : (List UInt8) × Int :=
 if ((l0.length : Nat) : Int) > 4096 then ([], 2) else bnd (octet_Num l0.length) fun yr32 => bnd (octet_Sum (([83] ++ yr32) ++ l0)) fun yr59 => (((([83] ++ yr32) ++ l0) ++ [(UInt8.ofNat yr59), (UInt8.ofNat (yr59 / 256)), (UInt8.ofNat (yr59 / 65536)), (UInt8.ofNat (yr59 / 16777216))]), 0)
set_option maxRecDepth 100000 in
theorem frame_Seal_ok (w : World) (D : Nat → Prop) (A0 : Option Addr) (n0 c0 : Nat) (l0 : List UInt8) (r0 : List UInt8) (r1 : Int) (H : Own w D w []) (hx0 : Ro w D fun w' => Rds w' 1 A0 n0 (List.flatMap eB l0)) (hn0 : n0 = l0.length) (hl0 : l0.length * 1 ≤ 211106232532992) (hr : frame_Seal l0 = (r0, r1)) :
    Calls Tryz.prog 17 #[.slice A0 n0 c0] w (Ret fun v w' => ∃ (B0 : Option Addr) (b0 : Nat), v = .tuple #[.slice B0 r0.length b0, .int .i64 r1] ∧ Own w D w' [row B0 r0.length b0 (List.flatMap eB r0) 5 1] ∧ (r0.length ≤ l0.length + 15)) := by
 subst hn0
 refine Calls.body (args := [.slice A0 l0.length c0]) Tryz.func17 rfl rfl rfl ?_
 show Wp _ _ _ [(0, .slice A0 l0.length c0)] _ _
 refine sr (Az rfl (An rfl (Wp.seq (sr (Mz rfl (Kz (.int .i64 ((l0.length : Nat) : Int)) (Kz (.bool (decide (((l0.length : Nat) : Int) > 4096))) (nt ?_))))))))
 by_cases h21 : ((l0.length : Nat) : Int) > 4096
 refine jT (dT h21) (sr (Az rfl (An rfl (rt (tR (Fin.res (res2 rfl rfl rfl) ?_))))))
 have H22 : Own w D w [row none 0 0 (List.flatMap eB ([])) 5 1] := H.free (row_nil 5 1)
 have H23 := H22.pk [0]
 have e : frame_Seal l0 = ([], 2) := ip h21
 obtain ⟨rfl, rfl⟩ := pj2 (e.symm.trans hr)
 exact ⟨none, 0, rfl, H23, (by first | omega | (simp only [List.length_cons, List.length_nil, List.length_append]; omega) | exact Nat.zero_le _)⟩
 refine jF (dF h21) (sk (sr ?_))
 refine nrw [.int .u8 83] 5 1 1 H ?_
 intro A24 w25 H26
 replace H26 : Own w D w25 [row A24 1 1 (List.flatMap eB ([83])) 5 1] := H26
 refine Mz rfl (Kz (.int .i64 ((l0.length : Nat) : Int)) (fw (.int .u64 ((l0.length : Nat) : Int)) (Yl.int (e := IntKind.u64.wrap ((l0.length : Nat) : Int)) yk (IntWalk.u64_in _ (by omega))) ?_))
 obtain ⟨r32, hr33⟩ : ∃ q, octet_Num l0.length = q := ⟨_, rfl⟩
 obtain ⟨D27, HP28, ro29, bk30, rr31⟩ := Own.enter0 H26
 refine cl Tryz.call51 (octet_Num_ok _ _ l0.length r32 HP28 (by omega) hr33) ?_
 rintro _ w34 ⟨A37, c38, rfl, HQ35, hk39, hk40⟩
 have H36 := bk30 _ _ HQ35
 have hb41 := H36.rowC (i := 0) rfl
 replace hk39 : 1 ≤ r32.length ∧ r32.length ≤ 10 := hk39
 replace hk40 : l0.length ≥ 128 ∨ r32.length = 1 := hk40
 have H42 := H36.pk [1, 0]
 refine WL.do rfl (Do.appendW (k := 1) (m := r32.length) (El31) H42 rfl rfl (src_of Tryz.underlying31 (H42.rds (i := 1) rfl) (flat_one eB_one r32)) rfl (by omega) (s := List.length ([83] ++ r32)) (by first | omega | (simp only [List.length_append, List.length_cons, List.length_nil] <;> omega)) (List.flatMap_append).symm ?_)
 intro A43 c44 w45 H46
 have hl47 : List.length ([83] ++ r32) = 1 + r32.length := by simp only [List.length_append, List.length_cons, List.length_nil]
 refine An rfl (Wp.seq ?_)
 have H48 := H46.pk [0]
 refine Wp.region (Mz rfl (Mz rfl ?_))
 refine WL.do rfl (Do.appendW (k := List.length ([83] ++ r32)) (m := l0.length) (El31) H48 rfl rfl (src_of Tryz.underlying31 (H48.ro hx0) (flat_one eB_one l0)) rfl (by omega) (s := List.length (([83] ++ r32) ++ l0)) (by first | omega | (simp only [List.length_append, List.length_cons, List.length_nil] <;> omega)) (List.flatMap_append).symm ?_)
 intro A49 c50 w51 H52
 have hl53 : List.length (([83] ++ r32) ++ l0) = (List.length ([83] ++ r32)) + l0.length := by simp only [List.length_append, List.length_cons, List.length_nil]
 refine Ar rfl (Mz rfl ?_)
 obtain ⟨r59, hr60⟩ : ∃ q, octet_Sum (([83] ++ r32) ++ l0) = q := ⟨_, rfl⟩
 obtain ⟨D54, HP55, ro56, bk57, rr58⟩ := Own.enter0 H52
 refine cl Tryz.call53 (octet_Sum_ok _ _ A49 (List.length (([83] ++ r32) ++ l0)) c50 (([83] ++ r32) ++ l0) r59 HP55 (rr58 _ 0 _ rfl row_rds) rfl (by first | omega | (simp only [List.length_append, List.length_cons, List.length_nil, List.length_take, List.length_drop, List.length_set]; omega)) (by first | omega | (simp only [List.length_cons, List.length_nil, List.length_append]; omega)) hr60) ?_
 rintro _ w61 ⟨rfl, HQ62, hk64⟩
 have H63 := bk57 _ _ HQ62
 replace hk64 : r59 ≤ 4294967295 := hk64
 refine WL.do rfl (Do.call Tryz.call52 rfl ?_ (fun _ _ k => k))
 refine Calls.body (args := [.int .u32 ((r59 : Nat) : Int)]) Tryz.func52 rfl rfl rfl ?_
 show Wp _ _ _ [(0, .int .u32 ((r59 : Nat) : Int))] _ _
 refine sr ?_
 refine npw [.int .u8 0, .int .u8 0, .int .u8 0, .int .u8 0] 90 H63 ?_
 intro g65 w66 H67
 refine ns (Mz rfl (fw (.int .u8 (((UInt8.ofNat r59).toNat : Nat) : Int)) (Yl.int (e := IntKind.u8.wrap ((r59 : Nat) : Int)) yk (u8_wrap _)) (Mz rfl (fw (.int .u32 ((r59 / 256 : Nat) : Int)) (Yl.int (e := Int.fdiv ((r59 : Nat) : Int) 256) yk (shr_nat _ 8 _ (by decide))) (fw (.int .u8 (((UInt8.ofNat (r59 / 256)).toNat : Nat) : Int)) (Yl.int (e := IntKind.u8.wrap ((r59 / 256 : Nat) : Int)) yk (u8_wrap _)) (Mz rfl (fw (.int .u32 ((r59 / 65536 : Nat) : Int)) (Yl.int (e := Int.fdiv ((r59 : Nat) : Int) 65536) yk (shr_nat _ 16 _ (by decide))) (fw (.int .u8 (((UInt8.ofNat (r59 / 65536)).toNat : Nat) : Int)) (Yl.int (e := IntKind.u8.wrap ((r59 / 65536 : Nat) : Int)) yk (u8_wrap _)) (Mz rfl (fw (.int .u32 ((r59 / 16777216 : Nat) : Int)) (Yl.int (e := Int.fdiv ((r59 : Nat) : Int) 16777216) yk (shr_nat _ 24 _ (by decide))) (fw (.int .u8 (((UInt8.ofNat (r59 / 16777216)).toNat : Nat) : Int)) (Yl.int (e := IntKind.u8.wrap ((r59 / 16777216 : Nat) : Int)) yk (u8_wrap _)) (Kz (.agg #[.int .u8 (((UInt8.ofNat r59).toNat : Nat) : Int), .int .u8 (((UInt8.ofNat (r59 / 256)).toNat : Nat) : Int), .int .u8 (((UInt8.ofNat (r59 / 65536)).toNat : Nat) : Int), .int .u8 (((UInt8.ofNat (r59 / 16777216)).toNat : Nat) : Int)]) ?_))))))))))))
 refine sto [.int .u8 (((UInt8.ofNat r59).toNat : Nat) : Int), .int .u8 (((UInt8.ofNat (r59 / 256)).toNat : Nat) : Int), .int .u8 (((UInt8.ofNat (r59 / 65536)).toNat : Nat) : Int), .int .u8 (((UInt8.ofNat (r59 / 16777216)).toNat : Nat) : Int)] 0 H67 Tryz.sizeOf90 ?_
 intro w68 H69
 refine nt (rt (Fin.res (resC rfl rfl (Lds.agg (cs := [.int .u8 (((UInt8.ofNat r59).toNat : Nat) : Int), .int .u8 (((UInt8.ofNat (r59 / 256)).toNat : Nat) : Int), .int .u8 (((UInt8.ofNat (r59 / 65536)).toNat : Nat) : Int), .int .u8 (((UInt8.ofNat (r59 / 16777216)).toNat : Nat) : Int)]) Tryz.isAgg90 Tryz.sizeOf90 ((H69.cls (i := 0) rfl).lit (k := 0) (m := 4) rfl))) ?_))
 refine npw [.int .u8 0, .int .u8 0, .int .u8 0, .int .u8 0] 90 H69 ?_
 intro g70 w71 H72
 refine sto [.int .u8 (((UInt8.ofNat r59).toNat : Nat) : Int), .int .u8 (((UInt8.ofNat (r59 / 256)).toNat : Nat) : Int), .int .u8 (((UInt8.ofNat (r59 / 65536)).toNat : Nat) : Int), .int .u8 (((UInt8.ofNat (r59 / 16777216)).toNat : Nat) : Int)] 0 H72 Tryz.sizeOf90 ?_
 intro w73 H74
 refine nt (Wp.seq ?_)
 have H75 := H74.pk [0, 2]
 refine Wp.region (Mz rfl (Kz (.slice (some ⟨g70, 0, none⟩) 4 4) ?_))
 have H76 := H75.pk [1, 0]
 refine WL.do rfl (Do.appendW (k := List.length (([83] ++ r32) ++ l0)) (m := 4) (El31) H76 rfl rfl (src_of Tryz.underlying31 (arr_rds (xs := List.flatMap eB [(UInt8.ofNat r59), (UInt8.ofNat (r59 / 256)), (UInt8.ofNat (r59 / 65536)), (UInt8.ofNat (r59 / 16777216))]) (H76.cls (i := 1) rfl) rfl rfl) (flat_one eB_one ([(UInt8.ofNat r59), (UInt8.ofNat (r59 / 256)), (UInt8.ofNat (r59 / 65536)), (UInt8.ofNat (r59 / 16777216))]))) rfl (by omega) (s := List.length ((([83] ++ r32) ++ l0) ++ [(UInt8.ofNat r59), (UInt8.ofNat (r59 / 256)), (UInt8.ofNat (r59 / 65536)), (UInt8.ofNat (r59 / 16777216))])) (by first | omega | (simp only [List.length_append, List.length_cons, List.length_nil] <;> omega)) (List.flatMap_append).symm ?_)
 intro A77 c78 w79 H80
 have hl81 : List.length ((([83] ++ r32) ++ l0) ++ [(UInt8.ofNat r59), (UInt8.ofNat (r59 / 256)), (UInt8.ofNat (r59 / 65536)), (UInt8.ofNat (r59 / 16777216))]) = (List.length (([83] ++ r32) ++ l0)) + 4 := by simp only [List.length_append, List.length_cons, List.length_nil]
 refine Az rfl (An rfl (rt (Fin.res (res2 rfl rfl rfl) ?_)))
 have H82 := H80.pk [0]
 have e : frame_Seal l0 = (((([83] ++ r32) ++ l0) ++ [(UInt8.ofNat r59), (UInt8.ofNat (r59 / 256)), (UInt8.ofNat (r59 / 65536)), (UInt8.ofNat (r59 / 16777216))]), 0) := et (iN h21) (et (bnd_of hr33) (bnd_of hr60))
 obtain ⟨rfl, rfl⟩ := pj2 (e.symm.trans hr)
 exact ⟨A77, c78, rfl, H82, (by first | omega | (simp only [List.length_cons, List.length_nil, List.length_append]; omega) | exact Nat.zero_le _)⟩
def octet_numLen_L0 : List UInt8 → Nat → Unit ⊕ Int
  | [], k21 => Sum.inl ()
  | x34 :: q22, k21 => if ((k21 : Nat) : Int) = 10 then Sum.inr (0) else if ((x34.toNat : Nat) : Int) < 128 then Sum.inr ((k21 + 1 : Nat) : Int) else octet_numLen_L0 q22 (k21 + 1)
def octet_numLen (l0 : List UInt8) : Int :=
 lp (octet_numLen_L0 l0 0) fun _ => 0
set_option maxRecDepth 100000 in
theorem octet_numLen_ok (w : World) (D : Nat → Prop) (A0 : Option Addr) (n0 c0 : Nat) (l0 : List UInt8) (r0 : Int) (H : Own w D w []) (hx0 : Ro w D fun w' => Rds w' 1 A0 n0 (List.flatMap eB l0)) (hn0 : n0 = l0.length) (hl0 : l0.length ≤ 9223372036854775807) (hr : octet_numLen l0 = r0) :
    Calls Tryz.prog 108 #[.slice A0 n0 c0] w (Ret fun v w' => v = .int .i64 r0 ∧ Own w D w' [] ∧ (0 ≤ r0 ∧ r0 ≤ 10 ∧ r0 ≤ ((l0.length : Nat) : Int))) := by
 subst hn0
 refine Calls.body (args := [.slice A0 l0.length c0]) Tryz.func108 rfl rfl rfl ?_
 show Wp _ _ _ [(0, .slice A0 l0.length c0)] _ _
 refine sr (An rfl (Wp.seq (sr (Mz rfl (Kz (.int .i64 ((l0.length : Nat) : Int)) (Mn rfl (bo ?_)))))))
 have H23 : Own w D w [] := H.pk []
 obtain ⟨I27, hI28⟩ : ∃ q : Nat → World → Prop, q = fun (i : Nat) w' => Own w D w' [] ∧ (i ≤ l0.length ∧ i ≤ 10 ∧ octet_numLen_L0 l0 0 = octet_numLen_L0 (List.drop i l0) i) := ⟨_, rfl⟩
 have dm29 : ∀ {k21 : Nat} {w' : World}, I27 k21 w' ↔ Own w D w' [] ∧ k21 ≤ l0.length ∧ k21 ≤ 10 ∧ octet_numLen_L0 l0 0 = octet_numLen_L0 (List.drop k21 l0) k21 := by intros; subst hI28; exact Iff.rfl
 refine Wp.loop (fun i : Nat => [(2, .int .i64 0), (7, .int .i64 ((i : Nat) : Int)), (6, .int .i64 ((l0.length : Nat) : Int)), (5, .slice A0 l0.length c0)]) I27 (fun i => l0.length - i) 0 ⟨rfl, rfl, rfl, rfl, trivial⟩ (dm29.2 ⟨H23, by omega, by omega, rfl⟩) ?_
 rintro k21 w24 hf26
 show Wp _ _ _ [(2, .int .i64 0), (7, .int .i64 ((k21 : Nat) : Int)), (6, .int .i64 ((l0.length : Nat) : Int)), (5, .slice A0 l0.length c0)] _ _
 obtain ⟨H25, hi31, hi32, hq30⟩ := dm29.1 hf26
 refine sr (Kz (.bool (decide (((k21 : Nat) : Int) < ((l0.length : Nat) : Int)))) (nt (Wp.seq ?_)))
 by_cases h33 : ((k21 : Nat) : Int) < ((l0.length : Nat) : Int)
 obtain ⟨x34, hx35⟩ := rds_at (ls := l0) (i := k21) eB_len (by decide) (H25.ro hx0) (by first | omega | (simp; done) | (simp; omega))
 have hd36 := drop_at hx35
 refine jT (dT h33) (sk (Wp.seq (bo (sr (Mz rfl (fw (.pointer (some ⟨ab A0, ao A0 + k21 * 1, none⟩)) (Yl.indexAddr (El31) rfl rfl ((H25.ro hx0).addr (i := k21) (by omega)) (by omega)) (fw (.int .u8 ((x34.toNat : Nat) : Int)) (Yl.load rfl (Lds.one Tryz.isAgg5 (((H25.ro hx0).elem eB_len hx35 (by decide)).at_ (k := 0) rfl))) (Az rfl (An rfl (Wp.seq (sr (Mz rfl (Kz (.bool (decide (((k21 : Nat) : Int) = 10))) (nt ?_))))))))))))))
 by_cases h37 : ((k21 : Nat) : Int) = 10
 refine jT (dT h37) (sr (An rfl (rt (tR (bR (tR (tR (bR (tR (rs ?_))))))))))
 have H38 := H25.pk []
 obtain rfl : _ = 0 := hr.symm.trans (lp_r (et (hq30) (et (congrArg (fun q => octet_numLen_L0 q k21) hd36) (ip h37))))
 exact ⟨rfl, H38, (by omega)⟩
 refine jF (dF h37) (sk (sr (Mz rfl (Kz (.bool (decide (((x34.toNat : Nat) : Int) < 128))) (nt ?_)))))
 by_cases h39 : ((x34.toNat : Nat) : Int) < 128
 refine jT (dT h39) (sr (Mz rfl (fw (.int .i64 ((k21 + 1 : Nat) : Int)) (Yl.int (e := IntKind.i64.wrap (((k21 : Nat) : Int) + 1)) yk (by rw [IntWalk.i64_in _ (by omega)]; omega)) (An rfl (rt (bR (tR (tR (bR (tR (rs ?_)))))))))))
 have H40 := H25.pk []
 obtain rfl : _ = ((k21 + 1 : Nat) : Int) := hr.symm.trans (lp_r (et (hq30) (et (congrArg (fun q => octet_numLen_L0 q k21) hd36) (et (iN h37) (ip h39)))))
 exact ⟨rfl, H40, (by omega)⟩
 refine jF (dF h39) (Wp.skip (bN (Fin.then (Wp.region (fw (.int .i64 ((k21 + 1 : Nat) : Int)) (Yl.int (e := IntKind.i64.wrap (((k21 : Nat) : Int) + 1)) yk (by rw [IntWalk.i64_in _ (by omega)]; omega)) (Mz rfl (WL.nil ?_)))))))
 have H41 := H25.pk []
 exact Fin.round (k21 + 1) ⟨rfl, rfl, rfl, rfl, trivial⟩ (dm29.2 ⟨H41, by omega, by omega, et (hq30) (et (congrArg (fun q => octet_numLen_L0 q k21) hd36) (et (iN h37) (iN h39)))⟩) (by show l0.length - (k21 + 1) < l0.length - k21; omega)
 refine jF (dF h33) (Wp.exit (Fin.thenX ?_))
 have hL42 : octet_numLen_L0 l0 0 = Sum.inl () := et (hq30) (et (congrArg (fun q => octet_numLen_L0 q k21) (drop_end (ls := l0) (i := k21) (by omega))) rfl)
 refine Fin.thenX (Fin.blockX (Fin.then (sr (An rfl (rt (rs ?_))))))
 have H43 := H25.pk []
 obtain rfl : _ = 0 := hr.symm.trans (lp_l hL42)
 exact ⟨rfl, H43, (by omega)⟩
def octet_ReadNum_L0 (l0 : List UInt8) (r26 : Int) : Nat → Nat → Nat → Nat
  | 0, k56, k57 => k56
  | q58 + 1, k56, k57 => bnd (List.getD (List.take (Int.toNat r26) l0) k57 default) fun yx70 => octet_ReadNum_L0 l0 r26 q58 (bOr64 k56 (bShl64 ((yx70 &&& (127 : UInt8)).toNat) (7 * k57))) (k57 + 1)
def octet_ReadNum (l0 : List UInt8) : Nat × Int × Int :=
 bnd (octet_numLen l0) fun yr26 => if yr26 = 0 then if ((l0.length : Nat) : Int) ≥ 10 then (0, 0, 11) else (0, 0, 10) else bnd (List.getD l0 (Int.toNat (yr26 - 1)) default) fun yx36 => bnd (if yr26 > 1 then if ((yx36.toNat : Nat) : Int) = 0 then true else if yr26 = 10 then decide (((yx36.toNat : Nat) : Int) > 1) else false else false) fun sJrbfbJ => if sJrbfbJ = true then (0, 0, 11) else bnd (octet_ReadNum_L0 l0 yr26 (Int.toNat yr26) 0 0) fun sLrbfbJafL => (sLrbfbJafL, yr26, 0)
set_option maxRecDepth 100000 in
theorem octet_ReadNum_ok (w : World) (D : Nat → Prop) (A0 : Option Addr) (n0 c0 : Nat) (l0 : List UInt8) (r0 : Nat) (r1 : Int) (r2 : Int) (H : Own w D w []) (hx0 : Ro w D fun w' => Rds w' 1 A0 n0 (List.flatMap eB l0)) (hn0 : n0 = l0.length) (hl0 : l0.length ≤ 9223372036854775807) (hq0 : l0.length ≤ c0) (hr : octet_ReadNum l0 = (r0, r1, r2)) :
    Calls Tryz.prog 77 #[.slice A0 n0 c0] w (Ret fun v w' => v = .tuple #[.int .u64 ((r0 : Nat) : Int), .int .i64 r1, .int .i64 r2] ∧ Own w D w' [] ∧ (¬ (r2 = 0) ∨ (1 ≤ r1 ∧ r1 ≤ 10 ∧ r1 ≤ ((l0.length : Nat) : Int))) ∧ (r0 ≤ 18446744073709551615)) := by
 subst hn0
 refine Calls.body (args := [.slice A0 l0.length c0]) Tryz.func77 rfl rfl rfl ?_
 show Wp _ _ _ [(0, .slice A0 l0.length c0)] _ _
 refine sr (Az rfl (Az rfl (Ar rfl (Mz rfl ?_))))
 obtain ⟨r26, hr27⟩ : ∃ q, octet_numLen l0 = q := ⟨_, rfl⟩
 obtain ⟨D21, HP22, ro23, bk24, rr25⟩ := Own.enter0 H
 refine cl Tryz.call108 (octet_numLen_ok _ _ A0 l0.length c0 l0 r26 HP22 (ro23 _ hx0) rfl (by omega) hr27) ?_
 rintro _ w28 ⟨rfl, HQ29, hk31⟩
 have H30 := bk24 _ _ HQ29
 replace hk31 : 0 ≤ r26 ∧ r26 ≤ 10 ∧ r26 ≤ ((l0.length : Nat) : Int) := hk31
 refine An rfl (Wp.seq (sr (Mz rfl (Kz (.bool (decide (r26 = 0))) (nt ?_)))))
 by_cases h32 : r26 = 0
 refine jT (dT h32) (Wp.seq (sr (Mz rfl (Kz (.int .i64 ((l0.length : Nat) : Int)) (Kz (.bool (decide (((l0.length : Nat) : Int) ≥ 10))) (nt ?_))))))
 by_cases h33 : ((l0.length : Nat) : Int) ≥ 10
 refine jT (dT h33) (sr (Az rfl (Az rfl (An rfl (rt (tR (tR (Fin.res (res3 rfl rfl rfl rfl) ?_))))))))
 have H34 := H30.pk []
 have e : octet_ReadNum l0 = (0, 0, 11) := et (bnd_of hr27) (et (ip h32) (ip h33))
 obtain ⟨rfl, rfl, rfl⟩ := pj3 (e.symm.trans hr)
 exact ⟨rfl, H34, (by omega), (by omega)⟩
 refine jF (dF h33) (sk (sr (Az rfl (Az rfl (An rfl (rt (tR (Fin.res (res3 rfl rfl rfl rfl) ?_))))))))
 have H35 := H30.pk []
 have e : octet_ReadNum l0 = (0, 0, 10) := et (bnd_of hr27) (et (ip h32) (iN h33))
 obtain ⟨rfl, rfl, rfl⟩ := pj3 (e.symm.trans hr)
 exact ⟨rfl, H35, (by omega), (by omega)⟩
 refine jF (dF h32) (sk (sr (Mz rfl (Mz rfl (fw (.int .i64 ((Int.toNat (r26 - 1) : Nat) : Int)) (Yl.int (e := IntKind.i64.wrap (r26 - 1)) yk (by rw [IntWalk.i64_in _ (by omega)]; omega)) ?_)))))
 obtain ⟨x36, hx37⟩ := rds_at (ls := l0) (i := Int.toNat (r26 - 1)) eB_len (by decide) (H30.ro hx0) (by first | omega | (simp; done) | (simp; omega))
 refine fw (.pointer (some ⟨ab A0, ao A0 + (Int.toNat (r26 - 1)) * 1, none⟩)) (Yl.indexAddr (El31) rfl rfl ((H30.ro hx0).addr (i := Int.toNat (r26 - 1)) (by omega)) (by omega)) (fw (.int .u8 ((x36.toNat : Nat) : Int)) (Yl.load rfl (Lds.one Tryz.isAgg5 (((H30.ro hx0).elem eB_len hx37 (by decide)).at_ (k := 0) rfl))) (An rfl (Wp.seq (Wp.seq ?_))))
 obtain ⟨I39, hI40⟩ : ∃ q : Bool → World → Prop, q = fun (i : Bool) w' => Own w D w' [] ∧ ((if r26 > 1 then if ((x36.toNat : Nat) : Int) = 0 then true else if r26 = 10 then decide (((x36.toNat : Nat) : Int) > 1) else false else false) = i) := ⟨_, rfl⟩
 have dm41 : ∀ {b38 : Bool} {w' : World}, I39 b38 w' ↔ Own w D w' [] ∧ (if r26 > 1 then if ((x36.toNat : Nat) : Int) = 0 then true else if r26 = 10 then decide (((x36.toNat : Nat) : Int) > 1) else false else false) = b38 := by intros; subst hI40; exact Iff.rfl
 refine Wp.joinT (fun i : Bool => [(35, .bool i), (5, .int .i64 r26), (4, .int .i64 0), (3, .int .i64 0), (2, .int .u64 0), (0, .slice A0 l0.length c0)]) I39 ?_ ?_
 refine Wp.region (Mz rfl (Kz (.bool (decide (r26 > 1))) (Mz rfl ?_)))
 by_cases h42 : r26 > 1
 refine gw (.int .u8 ((x36.toNat : Nat) : Int)) (dT h42) (Yl.move rfl) (Gz (.bool (decide (((x36.toNat : Nat) : Int) = 0))) (dT h42) (fw (.bool (decide (((x36.toNat : Nat) : Int) = 0))) (Yl.pickT rfl (dT h42) rfl) (Mz rfl ?_)))
 by_cases h43 : ((x36.toNat : Nat) : Int) = 0
 refine Sz (dT h43) (Sz (dT h43) (Sz (dT h43) (WL.skipU rfl rfl rfl (WL.skipU rfl rfl rfl (Sz (dT h43) (fw (.bool true) (Yl.pickT rfl (dT h43) rfl) (WL.nil ?_)))))))
 have H44 := H30.pk []
 exact Fin.join true ⟨rfl, rfl, rfl, rfl, rfl, rfl, trivial⟩ (dm41.2 ⟨H44, et (ip h42) (ip h43)⟩)
 refine gw (.int .i64 r26) (dF h43) (Yl.move rfl) (Gz (.bool (decide (r26 = 10))) (dF h43) (gw (.bool (decide (r26 = 10))) (dF h43) (Yl.move rfl) ?_))
 by_cases h45 : r26 = 10
 refine gw (.int .u8 ((x36.toNat : Nat) : Int)) (dT h45) (Yl.move rfl) (Gz (.bool (decide (((x36.toNat : Nat) : Int) > 1))) (dT h45) (gw (.bool (decide (((x36.toNat : Nat) : Int) > 1))) (dF h43) (Yl.pickT rfl (dT h45) rfl) (fw (.bool (decide (((x36.toNat : Nat) : Int) > 1))) (Yl.pickF rfl (dF h43) rfl) (WL.nil ?_))))
 have H46 := H30.pk []
 exact Fin.join (decide (((x36.toNat : Nat) : Int) > 1)) ⟨rfl, rfl, rfl, rfl, rfl, rfl, trivial⟩ (dm41.2 ⟨H46, et (ip h42) (et (iN h43) (ip h45))⟩)
 refine Sz (dF h45) (Sz (dF h45) (gw (.bool false) (dF h43) (Yl.pickF rfl (dF h45) rfl) (fw (.bool false) (Yl.pickF rfl (dF h43) rfl) (WL.nil ?_))))
 have H47 := H30.pk []
 exact Fin.join false ⟨rfl, rfl, rfl, rfl, rfl, rfl, trivial⟩ (dm41.2 ⟨H47, et (ip h42) (et (iN h43) (iN h45))⟩)
 refine Sz (dF h42) (Sz (dF h42) (fw (.bool false) (Yl.pickF rfl (dF h42) rfl) (Mz rfl (gw (.int .i64 r26) rfl (Yl.move rfl) (Gz (.bool (decide (r26 = 10))) rfl (gw (.bool (decide (r26 = 10))) rfl (Yl.move rfl) ?_))))))
 have hb48 : (decide (r26 = 10)) = false := (dF (by omega))
 refine Sz hb48 (Sz hb48 (gw (.bool false) rfl (Yl.pickF rfl hb48 rfl) (fw (.bool false) (Yl.pickF rfl rfl rfl) (WL.nil ?_))))
 have H49 := H30.pk []
 exact Fin.join false ⟨rfl, rfl, rfl, rfl, rfl, rfl, trivial⟩ (dm41.2 ⟨H49, iN h42⟩)
 rintro b38 w50 hf52
 show Wp _ _ _ [(35, .bool b38), (5, .int .i64 r26), (4, .int .i64 0), (3, .int .i64 0), (2, .int .u64 0), (0, .slice A0 l0.length c0)] _ _
 obtain ⟨H51, hj53⟩ := dm41.1 hf52
 rcases Bool.eq_false_or_eq_true (b38) with h54 | h54
 refine jT h54 (sr (Az rfl (Az rfl (An rfl (rt (tR (Fin.res (res3 rfl rfl rfl rfl) ?_)))))))
 have H55 := H51.pk []
 have e : octet_ReadNum l0 = (0, 0, 11) := et (bnd_of hr27) (et (iN h32) (et (bnd_of (getD_of hx37)) (et (bnd_of hj53) (ip h54))))
 obtain ⟨rfl, rfl, rfl⟩ := pj3 (e.symm.trans hr)
 exact ⟨rfl, H55, (by omega), (by omega)⟩
 refine jF h54 (sk (sr (An rfl (Wp.seq (sr (Mz rfl (fw (.int .i64 ((Int.toNat r26 : Nat) : Int)) (Yl.int (e := r26) (Yl.move rfl) (by omega)) (fw (.slice A0 (Int.toNat r26) c0) (Yl.cutTo (El31) rfl rfl (by omega)) (Kz (.int .i64 ((Int.toNat r26 : Nat) : Int)) (Mn rfl (bo ?_)))))))))))
 have H59 := H51.pk []
 obtain ⟨I63, hI64⟩ : ∃ q : (Nat × Nat) → World → Prop, q = fun (i : Nat × Nat) w' => Own w D w' [] ∧ (i.2 ≤ Int.toNat r26 ∧ (i.1 ≤ 18446744073709551615 ∧ i.2 ≤ 18446744073709551615) ∧ octet_ReadNum_L0 l0 r26 (Int.toNat r26) 0 0 = octet_ReadNum_L0 l0 r26 ((Int.toNat r26) - i.2) i.1 i.2) := ⟨_, rfl⟩
 have dm65 : ∀ {k56 : Nat} {k57 : Nat} {w' : World}, I63 (k56, k57) w' ↔ Own w D w' [] ∧ k57 ≤ Int.toNat r26 ∧ (k56 ≤ 18446744073709551615 ∧ k57 ≤ 18446744073709551615) ∧ octet_ReadNum_L0 l0 r26 (Int.toNat r26) 0 0 = octet_ReadNum_L0 l0 r26 ((Int.toNat r26) - k57) k56 k57 := by intros; subst hI64; exact Iff.rfl
 refine Wp.loop (fun i : Nat × Nat => [(7, .int .u64 ((i.1 : Nat) : Int)), (40, .int .i64 ((i.2 : Nat) : Int)), (39, .int .i64 ((Int.toNat r26 : Nat) : Int)), (38, .slice A0 (Int.toNat r26) c0), (5, .int .i64 r26), (4, .int .i64 0), (3, .int .i64 0), (2, .int .u64 0)]) I63 (fun i => (Int.toNat r26) - i.2) (0, 0) ⟨rfl, rfl, rfl, rfl, rfl, rfl, rfl, rfl, trivial⟩ (dm65.2 ⟨H59, by omega, by omega, rfl⟩) ?_
 rintro ⟨k56, k57⟩ w60 hf62
 show Wp _ _ _ [(7, .int .u64 ((k56 : Nat) : Int)), (40, .int .i64 ((k57 : Nat) : Int)), (39, .int .i64 ((Int.toNat r26 : Nat) : Int)), (38, .slice A0 (Int.toNat r26) c0), (5, .int .i64 r26), (4, .int .i64 0), (3, .int .i64 0), (2, .int .u64 0)] _ _
 obtain ⟨H61, hi67, hi68, hq66⟩ := dm65.1 hf62
 refine sr (Kz (.bool (decide (((k57 : Nat) : Int) < ((Int.toNat r26 : Nat) : Int)))) (nt (Wp.seq ?_)))
 by_cases h69 : ((k57 : Nat) : Int) < ((Int.toNat r26 : Nat) : Int)
 refine jT (dT h69) (sk (Wp.seq (bo (sr (Mz rfl ?_)))))
 obtain ⟨x70, hx71⟩ := rds_at (ls := (List.take (Int.toNat r26) l0)) (i := k57) eB_len (by decide) (Rds.toE (hi := Int.toNat r26) eB_len (H61.ro hx0) (by omega)) (by first | omega | (simp; done) | (simp; omega))
 refine fw (.pointer (some ⟨ab A0, ao A0 + k57 * 1, none⟩)) (Yl.indexAddr (El31) rfl rfl ((Rds.toE (hi := Int.toNat r26) eB_len (H61.ro hx0) (by omega)).addr (i := k57) (by omega)) (by omega)) (fw (.int .u8 ((x70.toNat : Nat) : Int)) (Yl.load rfl (Lds.one Tryz.isAgg5 (((Rds.toE (hi := Int.toNat r26) eB_len (H61.ro hx0) (by omega)).elem eB_len hx71 (by decide)).at_ (k := 0) rfl))) (Az rfl (An rfl (Wp.region (Mz rfl (Mz rfl (fw (.int .u8 (((x70 &&& (127 : UInt8)).toNat : Nat) : Int)) (Yl.int (e := IntKind.u8.wrap (((BitVec.ofInt 8 ((x70.toNat : Nat) : Int) &&& BitVec.ofInt 8 127).toNat : Nat) : Int)) yk (u8_and x70 (127 : UInt8))) ?_)))))))
 have hz72 : (x70 &&& (127 : UInt8)).toNat ≤ 255 := Nat.le_of_lt_succ (UInt8.toNat_lt _)
 refine fw (.int .u64 (((x70 &&& (127 : UInt8)).toNat : Nat) : Int)) (Yl.int (e := IntKind.u64.wrap (((x70 &&& (127 : UInt8)).toNat : Nat) : Int)) yk (IntWalk.u64_in _ (by omega))) (Mz rfl (fw (.int .u64 ((k57 : Nat) : Int)) (Yl.int (e := IntKind.u64.wrap ((k57 : Nat) : Int)) yk (IntWalk.u64_in _ (by omega))) (fw (.int .u64 ((7 * k57 : Nat) : Int)) (Yl.int (e := IntKind.u64.wrap (7 * ((k57 : Nat) : Int))) yk (by rw [IntWalk.u64_in _ (by omega)]; omega)) ?_)))
 have hz73 : bShl64 ((x70 &&& (127 : UInt8)).toNat) (7 * k57) ≤ 18446744073709551615 := bShl64_le _ _
 refine fw (.int .u64 ((bShl64 ((x70 &&& (127 : UInt8)).toNat) (7 * k57) : Nat) : Int)) (Yl.int (Yl.shl (m := 7 * k57) rfl rfl) (wrap_nat_u64 _)) ?_
 have hz74 : bOr64 k56 (bShl64 ((x70 &&& (127 : UInt8)).toNat) (7 * k57)) ≤ 18446744073709551615 := bOr64_le _ _
 refine fw (.int .u64 ((bOr64 k56 (bShl64 ((x70 &&& (127 : UInt8)).toNat) (7 * k57)) : Nat) : Int)) (Yl.int (e := IntKind.u64.wrap (((BitVec.ofInt 64 ((k56 : Nat) : Int) ||| BitVec.ofInt 64 ((bShl64 ((x70 &&& (127 : UInt8)).toNat) (7 * k57) : Nat) : Int)).toNat : Nat) : Int)) yk (wrap_nat_u64 _)) (Az rfl (WL.nil (bN (Fin.then (Wp.region (fw (.int .i64 ((k57 + 1 : Nat) : Int)) (Yl.int (e := IntKind.i64.wrap (((k57 : Nat) : Int) + 1)) yk (by rw [IntWalk.i64_in _ (by omega)]; omega)) (Mz rfl (WL.nil ?_))))))))
 have H75 := H61.pk []
 exact Fin.round (bOr64 k56 (bShl64 ((x70 &&& (127 : UInt8)).toNat) (7 * k57)), k57 + 1) ⟨rfl, rfl, rfl, rfl, rfl, rfl, rfl, rfl, trivial⟩ (dm65.2 ⟨H75, by omega, by omega, et (hq66) (et (congrArg (fun q => octet_ReadNum_L0 l0 r26 q k56 k57) (sub_at (n := Int.toNat r26) (i := k57) (by omega))) (bnd_of (getD_of hx71)))⟩) (by show (Int.toNat r26) - (k57 + 1) < (Int.toNat r26) - k57; omega)
 refine jF (dF h69) (Wp.exit (Fin.thenX ?_))
 have hL76 : octet_ReadNum_L0 l0 r26 (Int.toNat r26) 0 0 = k56 := et (hq66) (et (congrArg (fun q => octet_ReadNum_L0 l0 r26 q k56 k57) (sub_end (n := Int.toNat r26) (i := k57) (by omega))) rfl)
 refine Fin.thenX (Fin.blockX (Fin.then (sr (Mz rfl (Mz rfl (Az rfl (Az rfl (An rfl (rt (Fin.res (res3 rfl rfl rfl rfl) ?_))))))))))
 have H77 := H61.pk []
 have e : octet_ReadNum l0 = (k56, r26, 0) := et (bnd_of hr27) (et (iN h32) (et (bnd_of (getD_of hx37)) (et (bnd_of hj53) (et (ifF h54) (bnd_of hL76)))))
 obtain ⟨rfl, rfl, rfl⟩ := pj3 (e.symm.trans hr)
 exact ⟨rfl, H77, (by omega), (by omega)⟩
def octet_ReadFixed (l0 : List UInt8) : Nat × Int :=
 if ((l0.length : Nat) : Int) < 4 then (0, 10) else bnd (List.getD l0 0 default) fun yx25 => bnd (List.getD l0 1 default) fun yx28 => bnd (List.getD l0 2 default) fun yx33 => bnd (List.getD l0 3 default) fun yx38 => (bOr32 (bOr32 (bOr32 yx25.toNat (bShl32 yx28.toNat 8)) (bShl32 yx33.toNat 16)) (bShl32 yx38.toNat 24), 0)
set_option maxRecDepth 100000 in
theorem octet_ReadFixed_ok (w : World) (D : Nat → Prop) (A0 : Option Addr) (n0 c0 : Nat) (l0 : List UInt8) (r0 : Nat) (r1 : Int) (H : Own w D w []) (hx0 : Ro w D fun w' => Rds w' 1 A0 n0 (List.flatMap eB l0)) (hn0 : n0 = l0.length) (hl0 : l0.length * 1 ≤ 211106232532992) (hr : octet_ReadFixed l0 = (r0, r1)) :
    Calls Tryz.prog 76 #[.slice A0 n0 c0] w (Ret fun v w' => v = .tuple #[.int .u32 ((r0 : Nat) : Int), .int .i64 r1] ∧ Own w D w' []) := by
 subst hn0
 refine Calls.body (args := [.slice A0 l0.length c0]) Tryz.func76 rfl rfl rfl ?_
 show Wp _ _ _ [(0, .slice A0 l0.length c0)] _ _
 refine sr (Az rfl (An rfl (Wp.seq (sr (Mz rfl (Kz (.int .i64 ((l0.length : Nat) : Int)) (Kz (.bool (decide (((l0.length : Nat) : Int) < 4))) (nt ?_))))))))
 by_cases h21 : ((l0.length : Nat) : Int) < 4
 refine jT (dT h21) (sr (Az rfl (An rfl (rt (tR (Fin.res (res2 rfl rfl rfl) ?_))))))
 have H22 : Own w D w [] := H.pk []
 have e : octet_ReadFixed l0 = (0, 10) := ip h21
 obtain ⟨rfl, rfl⟩ := pj2 (e.symm.trans hr)
 exact ⟨rfl, H22⟩
 refine jF (dF h21) (sk (Wp.seq ?_))
 have H24 := H.drew
 refine Wp.drawnX [] (fun W => ∃ L', Own w D W ([] ++ L')) (by kernel_rfl) (by kernel_rfl) (NoP.then NoP.base) ⟨_, H24⟩ ?_
 revert H24
 generalize World.drew w = w23
 intro H24
 refine GX.take (v := .slice A0 l0.length c0) (rs := []) 0 rfl (by kernel_rfl) (fun _ _ => Yl.move rfl) ?_
 obtain ⟨x25, hx26⟩ := at_of (ls := l0) (i := 0) (by first | omega | (simp; done) | (simp; omega))
 refine GX.take (v := .pointer (some ⟨ab A0, ao A0 + 0 * 1, none⟩)) (rs := []) 1 rfl (by kernel_rfl) (fun _ ⟨_, H9⟩ => Yl.indexAddr (El31) rfl rfl ((H9.ro hx0).addr (i := 0) (by omega)) (by omega)) (GX.take (v := .int .u8 ((x25.toNat : Nat) : Int)) (rs := []) 2 rfl (by kernel_rfl) (fun _ ⟨_, H9⟩ => Yl.load rfl (Lds.one Tryz.isAgg5 (((H9.ro hx0).elem eB_len hx26 (by decide)).at_ (k := 0) rfl))) ?_)
 have hz27 : x25.toNat ≤ 255 := Nat.le_of_lt_succ (UInt8.toNat_lt _)
 refine GX.take (v := .int .u32 ((x25.toNat : Nat) : Int)) (rs := []) 3 rfl (by kernel_rfl) (fun _ _ => Yl.int (e := IntKind.u32.wrap ((x25.toNat : Nat) : Int)) yk (IntWalk.u32_in _ (by omega))) (GX.take (v := .slice A0 l0.length c0) (rs := []) 4 rfl (by kernel_rfl) (fun _ _ => Yl.move rfl) ?_)
 obtain ⟨x28, hx29⟩ := at_of (ls := l0) (i := 1) (by first | omega | (simp; done) | (simp; omega))
 refine GX.take (v := .pointer (some ⟨ab A0, ao A0 + 1 * 1, none⟩)) (rs := []) 5 rfl (by kernel_rfl) (fun _ ⟨_, H9⟩ => Yl.indexAddr (El31) rfl rfl ((H9.ro hx0).addr (i := 1) (by omega)) (by omega)) (GX.take (v := .int .u8 ((x28.toNat : Nat) : Int)) (rs := []) 6 rfl (by kernel_rfl) (fun _ ⟨_, H9⟩ => Yl.load rfl (Lds.one Tryz.isAgg5 (((H9.ro hx0).elem eB_len hx29 (by decide)).at_ (k := 0) rfl))) ?_)
 have hz30 : x28.toNat ≤ 255 := Nat.le_of_lt_succ (UInt8.toNat_lt _)
 refine GX.take (v := .int .u32 ((x28.toNat : Nat) : Int)) (rs := []) 7 rfl (by kernel_rfl) (fun _ _ => Yl.int (e := IntKind.u32.wrap ((x28.toNat : Nat) : Int)) yk (IntWalk.u32_in _ (by omega))) ?_
 have hz31 : bShl32 x28.toNat 8 ≤ 4294967295 := bShl32_le _ _
 refine GX.take (v := .int .u32 ((bShl32 x28.toNat 8 : Nat) : Int)) (rs := []) 8 rfl (by kernel_rfl) (fun _ _ => Yl.int (Yl.shl (m := 8) rfl rfl) (wrap_nat_u32 _)) ?_
 have hz32 : bOr32 x25.toNat (bShl32 x28.toNat 8) ≤ 4294967295 := bOr32_le _ _
 refine GX.take (v := .int .u32 ((bOr32 x25.toNat (bShl32 x28.toNat 8) : Nat) : Int)) (rs := []) 9 rfl (by kernel_rfl) (fun _ _ => Yl.int (e := IntKind.u32.wrap (((BitVec.ofInt 32 ((x25.toNat : Nat) : Int) ||| BitVec.ofInt 32 ((bShl32 x28.toNat 8 : Nat) : Int)).toNat : Nat) : Int)) yk (wrap_nat_u32 _)) (GX.take (v := .slice A0 l0.length c0) (rs := []) 10 rfl (by kernel_rfl) (fun _ _ => Yl.move rfl) ?_)
 obtain ⟨x33, hx34⟩ := at_of (ls := l0) (i := 2) (by first | omega | (simp; done) | (simp; omega))
 refine GX.take (v := .pointer (some ⟨ab A0, ao A0 + 2 * 1, none⟩)) (rs := []) 11 rfl (by kernel_rfl) (fun _ ⟨_, H9⟩ => Yl.indexAddr (El31) rfl rfl ((H9.ro hx0).addr (i := 2) (by omega)) (by omega)) (GX.take (v := .int .u8 ((x33.toNat : Nat) : Int)) (rs := []) 12 rfl (by kernel_rfl) (fun _ ⟨_, H9⟩ => Yl.load rfl (Lds.one Tryz.isAgg5 (((H9.ro hx0).elem eB_len hx34 (by decide)).at_ (k := 0) rfl))) ?_)
 have hz35 : x33.toNat ≤ 255 := Nat.le_of_lt_succ (UInt8.toNat_lt _)
 refine GX.take (v := .int .u32 ((x33.toNat : Nat) : Int)) (rs := []) 13 rfl (by kernel_rfl) (fun _ _ => Yl.int (e := IntKind.u32.wrap ((x33.toNat : Nat) : Int)) yk (IntWalk.u32_in _ (by omega))) ?_
 have hz36 : bShl32 x33.toNat 16 ≤ 4294967295 := bShl32_le _ _
 refine GX.take (v := .int .u32 ((bShl32 x33.toNat 16 : Nat) : Int)) (rs := []) 14 rfl (by kernel_rfl) (fun _ _ => Yl.int (Yl.shl (m := 16) rfl rfl) (wrap_nat_u32 _)) ?_
 have hz37 : bOr32 (bOr32 x25.toNat (bShl32 x28.toNat 8)) (bShl32 x33.toNat 16) ≤ 4294967295 := bOr32_le _ _
 refine GX.take (v := .int .u32 ((bOr32 (bOr32 x25.toNat (bShl32 x28.toNat 8)) (bShl32 x33.toNat 16) : Nat) : Int)) (rs := []) 15 rfl (by kernel_rfl) (fun _ _ => Yl.int (e := IntKind.u32.wrap (((BitVec.ofInt 32 ((bOr32 x25.toNat (bShl32 x28.toNat 8) : Nat) : Int) ||| BitVec.ofInt 32 ((bShl32 x33.toNat 16 : Nat) : Int)).toNat : Nat) : Int)) yk (wrap_nat_u32 _)) (GX.take (v := .slice A0 l0.length c0) (rs := []) 16 rfl (by kernel_rfl) (fun _ _ => Yl.move rfl) ?_)
 obtain ⟨x38, hx39⟩ := at_of (ls := l0) (i := 3) (by first | omega | (simp; done) | (simp; omega))
 refine GX.take (v := .pointer (some ⟨ab A0, ao A0 + 3 * 1, none⟩)) (rs := []) 17 rfl (by kernel_rfl) (fun _ ⟨_, H9⟩ => Yl.indexAddr (El31) rfl rfl ((H9.ro hx0).addr (i := 3) (by omega)) (by omega)) (GX.take (v := .int .u8 ((x38.toNat : Nat) : Int)) (rs := []) 18 rfl (by kernel_rfl) (fun _ ⟨_, H9⟩ => Yl.load rfl (Lds.one Tryz.isAgg5 (((H9.ro hx0).elem eB_len hx39 (by decide)).at_ (k := 0) rfl))) ?_)
 have hz40 : x38.toNat ≤ 255 := Nat.le_of_lt_succ (UInt8.toNat_lt _)
 refine GX.take (v := .int .u32 ((x38.toNat : Nat) : Int)) (rs := []) 19 rfl (by kernel_rfl) (fun _ _ => Yl.int (e := IntKind.u32.wrap ((x38.toNat : Nat) : Int)) yk (IntWalk.u32_in _ (by omega))) ?_
 have hz41 : bShl32 x38.toNat 24 ≤ 4294967295 := bShl32_le _ _
 refine GX.take (v := .int .u32 ((bShl32 x38.toNat 24 : Nat) : Int)) (rs := []) 20 rfl (by kernel_rfl) (fun _ _ => Yl.int (Yl.shl (m := 24) rfl rfl) (wrap_nat_u32 _)) ?_
 have hz42 : bOr32 (bOr32 (bOr32 x25.toNat (bShl32 x28.toNat 8)) (bShl32 x33.toNat 16)) (bShl32 x38.toNat 24) ≤ 4294967295 := bOr32_le _ _
 refine GX.take (v := .int .u32 ((bOr32 (bOr32 (bOr32 x25.toNat (bShl32 x28.toNat 8)) (bShl32 x33.toNat 16)) (bShl32 x38.toNat 24) : Nat) : Int)) (rs := []) 21 rfl (by kernel_rfl) (fun _ _ => Yl.int (e := IntKind.u32.wrap (((BitVec.ofInt 32 ((bOr32 (bOr32 x25.toNat (bShl32 x28.toNat 8)) (bShl32 x33.toNat 16) : Nat) : Int) ||| BitVec.ofInt 32 ((bShl32 x38.toNat 24 : Nat) : Int)).toNat : Nat) : Int)) yk (wrap_nat_u32 _)) (GX.take (v := .int .u32 ((bOr32 (bOr32 (bOr32 x25.toNat (bShl32 x28.toNat 8)) (bShl32 x33.toNat 16)) (bShl32 x38.toNat 24) : Nat) : Int)) (rs := []) 22 rfl (by kernel_rfl) (fun _ _ => Yl.assign rfl) (GX.take (v := .int .i64 0) (rs := []) 23 rfl (by kernel_rfl) (fun _ _ => Yl.assign rfl) (GX.done (by kernel_rfl) (Fin.then (rt (Fin.res (res2 rfl rfl rfl) ?_))))))
 have H43 := H24.pk []
 have e : octet_ReadFixed l0 = (bOr32 (bOr32 (bOr32 x25.toNat (bShl32 x28.toNat 8)) (bShl32 x33.toNat 16)) (bShl32 x38.toNat 24), 0) := et (iN h21) (et (bnd_of (getD_of hx26)) (et (bnd_of (getD_of hx29)) (et (bnd_of (getD_of hx34)) (bnd_of (getD_of hx39)))))
 obtain ⟨rfl, rfl⟩ := pj2 (e.symm.trans hr)
 exact ⟨rfl, H43⟩
def bytes_Clone (l0 : List UInt8) : (List UInt8) :=
 l0
set_option maxRecDepth 100000 in
theorem bytes_Clone_ok (w : World) (D : Nat → Prop) (A0 : Option Addr) (n0 c0 : Nat) (l0 : List UInt8) (r0 : List UInt8) (H : Own w D w []) (hx0 : Ro w D fun w' => Rds w' 1 A0 n0 (List.flatMap eB l0)) (hn0 : n0 = l0.length) (hl0 : l0.length * 1 ≤ 211106232532992) (hr : bytes_Clone l0 = r0) :
    Calls Tryz.prog 78 #[.slice A0 n0 c0] w (Ret fun v w' => ∃ (B0 : Option Addr) (b0 : Nat), v = .slice B0 r0.length b0 ∧ Own w D w' [row B0 r0.length b0 (List.flatMap eB r0) 5 1]) := by
 subst hn0
 refine Calls.body (args := [.slice A0 l0.length c0]) Tryz.func78 rfl rfl rfl ?_
 show Wp _ _ _ [(0, .slice A0 l0.length c0)] _ _
 refine sr (An rfl (Wp.seq (sr (Mz rfl (fw (.bool (Option.isNone A0)) (Yl.sliceNil Tryz.underlying31 rfl rfl) (nt ?_))))))
 rcases Bool.eq_false_or_eq_true (Option.isNone A0) with h21 | h21
 obtain rfl : l0 = [] := rds_none (enc := eB) (H.ro hx0) h21
 refine jT h21 (sr (An rfl (rt (tR (rs ?_)))))
 have H22 : Own w D w [row none 0 0 (List.flatMap eB ([])) 5 1] := H.free (row_nil 5 1)
 have H23 := H22.pk [0]
 obtain rfl : _ = ([]) := hr.symm.trans rfl
 exact ⟨none, 0, rfl, H23⟩
 refine jF h21 (sk (sr ?_))
 refine nrw [] 5 1 0 H ?_
 intro A24 w25 H26
 replace H26 : Own w D w25 [row A24 0 0 (List.flatMap eB ([])) 5 1] := H26
 refine Mz rfl ?_
 refine WL.do rfl (Do.appendW (k := 0) (m := l0.length) (El31) H26 rfl rfl (src_of Tryz.underlying31 (H26.ro hx0) (flat_one eB_one l0)) rfl (by omega) (s := l0.length) (by omega) rfl ?_)
 intro A27 c28 w29 H30
 refine An rfl (rt (rs ?_))
 have H31 := H30.pk [0]
 obtain rfl : _ = l0 := hr.symm.trans rfl
 exact ⟨A27, c28, rfl, H31⟩
def frame_Open (l0 : List UInt8) : (List UInt8) × Int :=
 if ((l0.length : Nat) : Int) > 4103 then ([], 2) else if ((l0.length : Nat) : Int) < 6 then ([], 10) else bnd (octet_ReadFixed (List.drop (l0.length - 4) l0)) fun yr33 => if yr33.2 = 0 then bnd (octet_Sum (List.take (l0.length - 4) l0)) fun yr46 => if ((yr33.1 : Nat) : Int) = ((yr46 : Nat) : Int) then bnd (List.getD (List.take (l0.length - 4) l0) 0 default) fun yx53 => if ((yx53.toNat : Nat) : Int) = 83 then bnd (octet_ReadNum (List.drop 1 (List.take (l0.length - 4) l0))) fun yr62 => if yr62.2.2 = 0 then if ((yr62.1 : Nat) : Int) = (((l0.length - 4) - (Int.toNat (1 + yr62.2.1)) : Nat) : Int) then if ((yr62.1 : Nat) : Int) > 4096 then ([], 11) else ((List.take ((l0.length - 4) - (Int.toNat (1 + yr62.2.1))) (List.drop (Int.toNat (1 + yr62.2.1)) (List.take (l0.length - 4) l0))), 0) else ([], 11) else ([], 11) else ([], 11) else ([], 50) else ([], 50)
set_option maxRecDepth 100000 in
theorem frame_Open_ok (w : World) (D : Nat → Prop) (A0 : Option Addr) (n0 c0 : Nat) (l0 : List UInt8) (r0 : List UInt8) (r1 : Int) (H : Own w D w []) (hx0 : Ro w D fun w' => Rds w' 1 A0 n0 (List.flatMap eB l0)) (hn0 : n0 = l0.length) (hl0 : l0.length * 1 ≤ 211106232532992) (hq0 : l0.length ≤ c0) (hr : frame_Open l0 = (r0, r1)) :
    Calls Tryz.prog 37 #[.slice A0 n0 c0] w (Ret fun v w' => ∃ (B0 : Option Addr) (b0 : Nat), v = .tuple #[.slice B0 r0.length b0, .int .i64 r1] ∧ Own w D w' [row B0 r0.length b0 (List.flatMap eB r0) 5 1] ∧ (r0.length ≤ l0.length)) := by
 subst hn0
 refine Calls.body (args := [.slice A0 l0.length c0]) Tryz.func37 rfl rfl rfl ?_
 show Wp _ _ _ [(0, .slice A0 l0.length c0)] _ _
 refine sr (Az rfl (An rfl (Wp.seq (sr (Mz rfl (Kz (.int .i64 ((l0.length : Nat) : Int)) (Kz (.bool (decide (((l0.length : Nat) : Int) > 4103))) (nt ?_))))))))
 by_cases h21 : ((l0.length : Nat) : Int) > 4103
 refine jT (dT h21) (sr (Az rfl (An rfl (rt (tR (Fin.res (res2 rfl rfl rfl) ?_))))))
 have H22 : Own w D w [row none 0 0 (List.flatMap eB ([])) 5 1] := H.free (row_nil 5 1)
 have H23 := H22.pk [0]
 have e : frame_Open l0 = ([], 2) := ip h21
 obtain ⟨rfl, rfl⟩ := pj2 (e.symm.trans hr)
 exact ⟨none, 0, rfl, H23, (by first | omega | exact Nat.zero_le _ | (simp only [List.length_take, List.length_drop]; omega))⟩
 refine jF (dF h21) (sk (Wp.seq (sr (Mz rfl (Kz (.int .i64 ((l0.length : Nat) : Int)) (Kz (.bool (decide (((l0.length : Nat) : Int) < 6))) (nt ?_)))))))
 by_cases h24 : ((l0.length : Nat) : Int) < 6
 refine jT (dT h24) (sr (Az rfl (An rfl (rt (tR (Fin.res (res2 rfl rfl rfl) ?_))))))
 have H25 : Own w D w [row none 0 0 (List.flatMap eB ([])) 5 1] := H.free (row_nil 5 1)
 have H26 := H25.pk [0]
 have e : frame_Open l0 = ([], 10) := et (iN h21) (ip h24)
 obtain ⟨rfl, rfl⟩ := pj2 (e.symm.trans hr)
 exact ⟨none, 0, rfl, H26, (by first | omega | exact Nat.zero_le _ | (simp only [List.length_take, List.length_drop]; omega))⟩
 refine jF (dF h24) (sk (sr (Mz rfl (Kz (.int .i64 ((l0.length : Nat) : Int)) (fw (.int .i64 ((l0.length - 4 : Nat) : Int)) (Yl.int (e := IntKind.i64.wrap (((l0.length : Nat) : Int) - 4)) yk (by rw [IntWalk.i64_in _ (by omega)]; omega)) (Ar rfl (Mz rfl (Mz rfl (Mz rfl (fw (.slice A0 (l0.length - 4) (l0.length - 4)) (Yl.cut3 (El31) rfl rfl rfl (by omega) (by omega)) (Ar rfl (Mz rfl (Mz rfl (fw (.slice (cutA A0 (l0.length - 4) 1 c0) (l0.length - (l0.length - 4)) (c0 - (l0.length - 4))) (Yl.cutFrom (El31) rfl rfl (by omega)) ?_))))))))))))))
 have hz32 : l0.length - (l0.length - 4) = List.length (List.drop (l0.length - 4) l0) := (by first | rfl | omega | (simp only [List.length_append, List.length_cons, List.length_nil, List.length_take, List.length_drop, List.length_set, List.length_replicate, List.length_map] <;> omega))
 obtain ⟨⟨r33, r34⟩, hr35⟩ : ∃ q : Nat × Int, octet_ReadFixed (List.drop (l0.length - 4) l0) = q := ⟨_, rfl⟩
 obtain ⟨D27, HP28, ro29, bk30, rr31⟩ := Own.enter0 H
 refine cl Tryz.call76 (octet_ReadFixed_ok _ _ (cutA A0 (l0.length - 4) 1 c0) (l0.length - (l0.length - 4)) (c0 - (l0.length - 4)) (List.drop (l0.length - 4) l0) r33 r34 HP28 (fun w9 h9 => Rds.fromE (lo := l0.length - 4) eB_len ((ro29 _ hx0) w9 h9) (by omega) (by omega) (by decide)) (by first | rfl | omega | (simp only [List.length_append, List.length_cons, List.length_nil, List.length_take, List.length_drop, List.length_set, List.length_replicate, List.length_map] <;> omega)) (by first | omega | (simp only [List.length_append, List.length_cons, List.length_nil, List.length_take, List.length_drop, List.length_set]; omega)) hr35) ?_
 rintro _ w36 ⟨rfl, HQ37⟩
 have H38 := bk30 _ _ HQ37
 refine Mz rfl (Kz (.int .u32 ((r33 : Nat) : Int)) (Kz (.int .i64 r34) (Az rfl (An rfl (Wp.seq (sr (Mz rfl (fw (.bool (decide (¬ (r34 = 0)))) (Yl.bool (e := !(decide (r34 = 0))) yk decide_not.symm) (Mz rfl ?_)))))))))
 by_cases h39 : r34 = 0
 refine gw (.int .u32 ((r33 : Nat) : Int)) (dF (not_not_intro h39)) (Yl.move rfl) (gw (.slice A0 (l0.length - 4) (l0.length - 4)) (dF (not_not_intro h39)) (Yl.move rfl) ?_)
 have hz45 : l0.length - 4 = List.length (List.take (l0.length - 4) l0) := (by first | rfl | omega | (simp only [List.length_append, List.length_cons, List.length_nil, List.length_take, List.length_drop, List.length_set, List.length_replicate, List.length_map] <;> omega))
 obtain ⟨r46, hr47⟩ : ∃ q, octet_Sum (List.take (l0.length - 4) l0) = q := ⟨_, rfl⟩
 obtain ⟨D40, HP41, ro42, bk43, rr44⟩ := Own.enter0 H38
 refine clG (decide_eq_false (not_not_intro h39)) Tryz.call53 (octet_Sum_ok _ _ A0 (l0.length - 4) (l0.length - 4) (List.take (l0.length - 4) l0) r46 HP41 (fun w9 h9 => Rds.toE (hi := l0.length - 4) eB_len ((ro42 _ hx0) w9 h9) (by omega)) (by first | rfl | omega | (simp only [List.length_append, List.length_cons, List.length_nil, List.length_take, List.length_drop, List.length_set, List.length_replicate, List.length_map] <;> omega)) (by first | omega | (simp only [List.length_append, List.length_cons, List.length_nil, List.length_take, List.length_drop, List.length_set]; omega)) (by first | omega | (simp only [List.length_cons, List.length_nil, List.length_append]; omega)) hr47) ?_
 rintro _ w48 ⟨rfl, HQ49, hk51⟩
 have H50 := bk43 _ _ HQ49
 replace hk51 : r46 ≤ 4294967295 := hk51
 refine gw (.bool (decide (¬ (((r33 : Nat) : Int) = ((r46 : Nat) : Int))))) (dF (not_not_intro h39)) (Yl.bool (e := !(decide (((r33 : Nat) : Int) = ((r46 : Nat) : Int)))) yk decide_not.symm) (fw (.bool (decide (¬ (((r33 : Nat) : Int) = ((r46 : Nat) : Int))))) (Yl.pickF rfl (dF (not_not_intro h39)) rfl) (nt ?_))
 by_cases h52 : ((r33 : Nat) : Int) = ((r46 : Nat) : Int)
 refine jF (dF (not_not_intro h52)) (sk (Wp.seq (sr (Mz rfl ?_))))
 obtain ⟨x53, hx54⟩ := rds_at (ls := (List.take (l0.length - 4) l0)) (i := 0) eB_len (by decide) (Rds.toE (hi := l0.length - 4) eB_len (H50.ro hx0) (by omega)) (by first | omega | (simp; done) | (simp; omega))
 refine fw (.pointer (some ⟨ab A0, ao A0 + 0 * 1, none⟩)) (Yl.indexAddr (El31) rfl rfl ((Rds.toE (hi := l0.length - 4) eB_len (H50.ro hx0) (by omega)).addr (i := 0) (by omega)) (by omega)) (fw (.int .u8 ((x53.toNat : Nat) : Int)) (Yl.load rfl (Lds.one Tryz.isAgg5 (((Rds.toE (hi := l0.length - 4) eB_len (H50.ro hx0) (by omega)).elem eB_len hx54 (by decide)).at_ (k := 0) rfl))) (fw (.bool (decide (¬ (((x53.toNat : Nat) : Int) = 83)))) (Yl.bool (e := !(decide (((x53.toNat : Nat) : Int) = 83))) yk decide_not.symm) (nt ?_)))
 by_cases h55 : ((x53.toNat : Nat) : Int) = 83
 refine jF (dF (not_not_intro h55)) (sk (sr (Mz rfl (fw (.slice (cutA A0 1 1 (l0.length - 4)) ((l0.length - 4) - 1) ((l0.length - 4) - 1)) (Yl.cutFrom (El31) rfl rfl (by omega)) ?_))))
 have hz61 : (l0.length - 4) - 1 = List.length (List.drop 1 (List.take (l0.length - 4) l0)) := (by first | rfl | omega | (simp only [List.length_append, List.length_cons, List.length_nil, List.length_take, List.length_drop, List.length_set, List.length_replicate, List.length_map] <;> omega))
 obtain ⟨⟨r62, r63, r64⟩, hr65⟩ : ∃ q : Nat × Int × Int, octet_ReadNum (List.drop 1 (List.take (l0.length - 4) l0)) = q := ⟨_, rfl⟩
 obtain ⟨D56, HP57, ro58, bk59, rr60⟩ := Own.enter0 H50
 refine cl Tryz.call77 (octet_ReadNum_ok _ _ (cutA A0 1 1 (l0.length - 4)) ((l0.length - 4) - 1) ((l0.length - 4) - 1) (List.drop 1 (List.take (l0.length - 4) l0)) r62 r63 r64 HP57 (fun w9 h9 => Rds.fromE (lo := 1) eB_len ((fun w9 h9 => Rds.toE (hi := l0.length - 4) eB_len ((ro58 _ hx0) w9 h9) (by omega)) w9 h9) (by omega) (by omega) (by decide)) (by first | rfl | omega | (simp only [List.length_append, List.length_cons, List.length_nil, List.length_take, List.length_drop, List.length_set, List.length_replicate, List.length_map] <;> omega)) (by first | omega | (simp only [List.length_append, List.length_cons, List.length_nil, List.length_take, List.length_drop, List.length_set]; omega)) (by first | omega | (simp only [List.length_take, List.length_drop]; omega) | exact Nat.le_refl _) hr65) ?_
 rintro _ w66 ⟨rfl, HQ67, hk69, hk70⟩
 have H68 := bk59 _ _ HQ67
 replace hk69 : ¬ (r64 = 0) ∨ (1 ≤ r63 ∧ r63 ≤ 10 ∧ r63 ≤ ((List.length (List.drop 1 (List.take (l0.length - 4) l0)) : Nat) : Int)) := hk69
 replace hk70 : r62 ≤ 18446744073709551615 := hk70
 refine Mz rfl (Kz (.int .u64 ((r62 : Nat) : Int)) (Kz (.int .i64 r63) (Kz (.int .i64 r64) (Az rfl (Az rfl (An rfl (Wp.seq (sr (Mz rfl (fw (.bool (decide (¬ (r64 = 0)))) (Yl.bool (e := !(decide (r64 = 0))) yk decide_not.symm) (nt ?_)))))))))))
 by_cases h71 : r64 = 0
 refine jF (dF (not_not_intro h71)) (sk (sr (Mz rfl (Mz rfl (fw (.int .i64 ((Int.toNat (1 + r63) : Nat) : Int)) (Yl.int (e := IntKind.i64.wrap (1 + r63)) yk (by rw [IntWalk.i64_in _ (by omega)]; omega)) (Mz rfl (Mz rfl (fw (.slice (cutA A0 (Int.toNat (1 + r63)) 1 (l0.length - 4)) ((l0.length - 4) - (Int.toNat (1 + r63))) ((l0.length - 4) - (Int.toNat (1 + r63)))) (Yl.cutM (El31) rfl rfl rfl rfl (by omega) (by omega) (by omega)) (An rfl (Wp.seq (sr (Mz rfl (Mz rfl (Kz (.int .i64 (((l0.length - 4) - (Int.toNat (1 + r63)) : Nat) : Int)) (fw (.int .u64 (((l0.length - 4) - (Int.toNat (1 + r63)) : Nat) : Int)) (Yl.int (e := IntKind.u64.wrap (((l0.length - 4) - (Int.toNat (1 + r63)) : Nat) : Int)) yk (IntWalk.u64_in _ (by omega))) (fw (.bool (decide (¬ (((r62 : Nat) : Int) = (((l0.length - 4) - (Int.toNat (1 + r63)) : Nat) : Int))))) (Yl.bool (e := !(decide (((r62 : Nat) : Int) = (((l0.length - 4) - (Int.toNat (1 + r63)) : Nat) : Int)))) yk decide_not.symm) (Mz rfl ?_)))))))))))))))))
 by_cases h72 : ((r62 : Nat) : Int) = (((l0.length - 4) - (Int.toNat (1 + r63)) : Nat) : Int)
 refine gw (.int .u64 ((r62 : Nat) : Int)) (dF (not_not_intro h72)) (Yl.move rfl) (gw (.bool (decide (((r62 : Nat) : Int) > 4096))) (dF (not_not_intro h72)) yk (fw (.bool (decide (((r62 : Nat) : Int) > 4096))) (Yl.pickF rfl (dF (not_not_intro h72)) rfl) (nt ?_)))
 by_cases h73 : ((r62 : Nat) : Int) > 4096
 refine jT (dT h73) (sr (Az rfl (An rfl (rt (tR (Fin.res (res2 rfl rfl rfl) ?_))))))
 have H74 : Own w D w66 [row none 0 0 (List.flatMap eB ([])) 5 1] := H68.free (row_nil 5 1)
 have H75 := H74.pk [0]
 have e : frame_Open l0 = ([], 11) := et (iN h21) (et (iN h24) (et (bnd_of hr35) (et (ip h39) (et (bnd_of hr47) (et (ip h52) (et (bnd_of (getD_of hx54)) (et (ip h55) (et (bnd_of hr65) (et (ip h71) (et (ip h72) (ip h73)))))))))))
 obtain ⟨rfl, rfl⟩ := pj2 (e.symm.trans hr)
 exact ⟨none, 0, rfl, H75, (by first | omega | exact Nat.zero_le _ | (simp only [List.length_take, List.length_drop]; omega))⟩
 refine jF (dF h73) (sk (sr (Mz rfl ?_)))
 have hz81 : (l0.length - 4) - (Int.toNat (1 + r63)) = List.length (List.take ((l0.length - 4) - (Int.toNat (1 + r63))) (List.drop (Int.toNat (1 + r63)) (List.take (l0.length - 4) l0))) := (by first | rfl | omega | (simp only [List.length_append, List.length_cons, List.length_nil, List.length_take, List.length_drop, List.length_set, List.length_replicate, List.length_map] <;> omega))
 obtain ⟨D76, HP77, ro78, bk79, rr80⟩ := Own.enter0 H68
 refine cl Tryz.call78 (bytes_Clone_ok _ _ (cutA A0 (Int.toNat (1 + r63)) 1 (l0.length - 4)) ((l0.length - 4) - (Int.toNat (1 + r63))) ((l0.length - 4) - (Int.toNat (1 + r63))) (List.take ((l0.length - 4) - (Int.toNat (1 + r63))) (List.drop (Int.toNat (1 + r63)) (List.take (l0.length - 4) l0))) (List.take ((l0.length - 4) - (Int.toNat (1 + r63))) (List.drop (Int.toNat (1 + r63)) (List.take (l0.length - 4) l0))) HP77 (fun w9 h9 => Rds.cutE (lo := Int.toNat (1 + r63)) (hi := l0.length - 4) eB_len ((fun w9 h9 => Rds.toE (hi := l0.length - 4) eB_len ((ro78 _ hx0) w9 h9) (by omega)) w9 h9) (by omega) (by omega) (by omega)) (by first | rfl | omega | (simp only [List.length_append, List.length_cons, List.length_nil, List.length_take, List.length_drop, List.length_set, List.length_replicate, List.length_map] <;> omega)) (by first | omega | (simp only [List.length_append, List.length_cons, List.length_nil, List.length_take, List.length_drop, List.length_set]; omega)) rfl) ?_
 rintro _ w82 ⟨A85, c86, rfl, HQ83⟩
 have H84 := bk79 _ _ HQ83
 have hb87 := H84.rowC (i := 0) rfl
 refine Az rfl (An rfl (rt (Fin.res (res2 rfl rfl rfl) ?_)))
 have H88 := H84.pk [0]
 have e : frame_Open l0 = ((List.take ((l0.length - 4) - (Int.toNat (1 + r63))) (List.drop (Int.toNat (1 + r63)) (List.take (l0.length - 4) l0))), 0) := et (iN h21) (et (iN h24) (et (bnd_of hr35) (et (ip h39) (et (bnd_of hr47) (et (ip h52) (et (bnd_of (getD_of hx54)) (et (ip h55) (et (bnd_of hr65) (et (ip h71) (et (ip h72) (iN h73)))))))))))
 obtain ⟨rfl, rfl⟩ := pj2 (e.symm.trans hr)
 exact ⟨A85, c86, rfl, H88, (by first | omega | exact Nat.zero_le _ | (simp only [List.length_take, List.length_drop]; omega))⟩
 refine Sz (dT h72) (Sz (dT h72) (fw (.bool true) (Yl.pickT rfl (dT h72) rfl) (nt (jt (sr (Az rfl (An rfl (rt (tR (Fin.res (res2 rfl rfl rfl) ?_))))))))))
 have H89 : Own w D w66 [row none 0 0 (List.flatMap eB ([])) 5 1] := H68.free (row_nil 5 1)
 have H90 := H89.pk [0]
 have e : frame_Open l0 = ([], 11) := et (iN h21) (et (iN h24) (et (bnd_of hr35) (et (ip h39) (et (bnd_of hr47) (et (ip h52) (et (bnd_of (getD_of hx54)) (et (ip h55) (et (bnd_of hr65) (et (ip h71) (iN h72))))))))))
 obtain ⟨rfl, rfl⟩ := pj2 (e.symm.trans hr)
 exact ⟨none, 0, rfl, H90, (by first | omega | exact Nat.zero_le _ | (simp only [List.length_take, List.length_drop]; omega))⟩
 refine jT (dT h71) (sr (Az rfl (An rfl (rt (tR (Fin.res (res2 rfl rfl rfl) ?_))))))
 have H91 : Own w D w66 [row none 0 0 (List.flatMap eB ([])) 5 1] := H68.free (row_nil 5 1)
 have H92 := H91.pk [0]
 have e : frame_Open l0 = ([], 11) := et (iN h21) (et (iN h24) (et (bnd_of hr35) (et (ip h39) (et (bnd_of hr47) (et (ip h52) (et (bnd_of (getD_of hx54)) (et (ip h55) (et (bnd_of hr65) (iN h71)))))))))
 obtain ⟨rfl, rfl⟩ := pj2 (e.symm.trans hr)
 exact ⟨none, 0, rfl, H92, (by first | omega | exact Nat.zero_le _ | (simp only [List.length_take, List.length_drop]; omega))⟩
 refine jT (dT h55) (sr (Az rfl (An rfl (rt (tR (Fin.res (res2 rfl rfl rfl) ?_))))))
 have H93 : Own w D w48 [row none 0 0 (List.flatMap eB ([])) 5 1] := H50.free (row_nil 5 1)
 have H94 := H93.pk [0]
 have e : frame_Open l0 = ([], 11) := et (iN h21) (et (iN h24) (et (bnd_of hr35) (et (ip h39) (et (bnd_of hr47) (et (ip h52) (et (bnd_of (getD_of hx54)) (iN h55)))))))
 obtain ⟨rfl, rfl⟩ := pj2 (e.symm.trans hr)
 exact ⟨none, 0, rfl, H94, (by first | omega | exact Nat.zero_le _ | (simp only [List.length_take, List.length_drop]; omega))⟩
 refine jT (dT h52) (sr (Az rfl (An rfl (rt (tR (Fin.res (res2 rfl rfl rfl) ?_))))))
 have H95 : Own w D w48 [row none 0 0 (List.flatMap eB ([])) 5 1] := H50.free (row_nil 5 1)
 have H96 := H95.pk [0]
 have e : frame_Open l0 = ([], 50) := et (iN h21) (et (iN h24) (et (bnd_of hr35) (et (ip h39) (et (bnd_of hr47) (iN h52)))))
 obtain ⟨rfl, rfl⟩ := pj2 (e.symm.trans hr)
 exact ⟨none, 0, rfl, H96, (by first | omega | exact Nat.zero_le _ | (simp only [List.length_take, List.length_drop]; omega))⟩
 refine Sz (dT h39) (Sz (dT h39) (Sz (dT h39) (Sz (dT h39) (fw (.bool true) (Yl.pickT rfl (dT h39) rfl) (nt (jt (sr (Az rfl (An rfl (rt (tR (Fin.res (res2 rfl rfl rfl) ?_))))))))))))
 have H97 : Own w D w36 [row none 0 0 (List.flatMap eB ([])) 5 1] := H38.free (row_nil 5 1)
 have H98 := H97.pk [0]
 have e : frame_Open l0 = ([], 50) := et (iN h21) (et (iN h24) (et (bnd_of hr35) (iN h39)))
 obtain ⟨rfl, rfl⟩ := pj2 (e.symm.trans hr)
 exact ⟨none, 0, rfl, H98, (by first | omega | exact Nat.zero_le _ | (simp only [List.length_take, List.length_drop]; omega))⟩
end Go.Proofs.YtccjclalngabhaaGreat
