/-
 wire: the document's answer, bytes.
-/
import Derived.Test.YtccjclalngabhaaGreatWr
namespace Go.Proofs.YtccjclalngabhaaGreat
open Go.RowKit
set_option linter.unusedVariables false
set_option linter.unusedSectionVars false
set_option linter.unusedSimpArgs false
def r01_Num (p0 : Nat) : (List UInt8) :=
 if p0 < 128 then [(UInt8.ofNat p0)] else bnd (r01_Num (p0 / 128)) fun yr34 => ([((UInt8.ofNat (p0 % 128)) + (128 : UInt8))] ++ yr34)
 termination_by p0
 decreasing_by all_goals omega
theorem r01_Num_eq (p0 : Nat) : r01_Num p0 = if ((p0 : Nat) : Int) < 128 then [(UInt8.ofNat p0)] else bnd (r01_Num (p0 / 128)) fun yr34 => ([((UInt8.ofNat (p0 % 128)) + (128 : UInt8))] ++ yr34) := by
 rw [r01_Num.eq_1 p0]
 by_cases h9 : p0 < 128
 · rw [ip h9, ip (by omega)]
 · rw [iN h9, iN (by omega)]
set_option maxRecDepth 100000 in
theorem r01_Num_ok (w : World) (D : Nat → Prop) (p0 : Nat) (r0 : List UInt8) (H : Own w D w []) (hh0 : p0 ≤ 18446744073709551615) (hr : r01_Num p0 = r0) :
    Calls Tryz.prog 63 #[.int .u64 ((p0 : Nat) : Int)] w (Ret fun v w' => ∃ (B0 : Option Addr) (b0 : Nat), v = .slice B0 r0.length b0 ∧ Own w D w' [row B0 r0.length b0 (List.flatMap eB r0) 5 1] ∧ (RecN p0 r0.length) ∧ (1 ≤ r0.length ∧ r0.length ≤ 10)) := by
 obtain ⟨pm, hpm⟩ : ∃ q, q = p0 := ⟨_, rfl⟩
 have self_ : ∀ (w : World) (D : Nat → Prop) (p0 : Nat) (r0 : List UInt8) (H : Own w D w []) (hh0 : p0 ≤ 18446744073709551615) (hh_ : p0 < pm) (hr : r01_Num p0 = r0), Calls Tryz.prog 63 #[.int .u64 ((p0 : Nat) : Int)] w (Ret fun v w' => ∃ (B0 : Option Addr) (b0 : Nat), v = .slice B0 r0.length b0 ∧ Own w D w' [row B0 r0.length b0 (List.flatMap eB r0) 5 1] ∧ (RecN p0 r0.length) ∧ (1 ≤ r0.length ∧ r0.length ≤ 10)) := fun w D p0 r0 H hh0 hh_ hr => r01_Num_ok w D p0 r0 H hh0 hr
 refine Calls.body (args := [.int .u64 ((p0 : Nat) : Int)]) Tryz.func63 rfl rfl rfl ?_
 show Wp _ _ _ [(0, .int .u64 ((p0 : Nat) : Int))] _ _
 refine sr (An rfl (Wp.seq (sr (Mz rfl (Kz (.bool (decide (((p0 : Nat) : Int) < 128))) (nt ?_))))))
 by_cases h21 : ((p0 : Nat) : Int) < 128
 refine jT (dT h21) (sr (Mz rfl (fw (.int .u8 (((UInt8.ofNat p0).toNat : Nat) : Int)) (Yl.int (e := IntKind.u8.wrap ((p0 : Nat) : Int)) yk (u8_wrap _)) ?_)))
 refine nrw [.int .u8 (((UInt8.ofNat p0).toNat : Nat) : Int)] 5 1 1 H ?_
 intro A22 w23 H24
 replace H24 : Own w D w23 [row A22 1 1 (List.flatMap eB ([(UInt8.ofNat p0)])) 5 1] := H24
 refine An rfl (rt (tR (rs ?_)))
 have H25 := H24.pk [0]
 obtain rfl : _ = [(UInt8.ofNat p0)] := hr.symm.trans (et (r01_Num_eq _) (ip h21))
 exact ⟨A22, 1, rfl, H25, (by first | exact RecN.one rfl | exact RecN.step (by omega) (by assumption) (by simp only [List.length_append, List.length_cons, List.length_nil]; omega)), (by first | (exact RecN.ten (RecN.one rfl) hh0) | (exact RecN.ten (RecN.step (by omega) (by assumption) (by simp only [List.length_append, List.length_cons, List.length_nil]; omega)) hh0))⟩
 refine jF (dF h21) (sk (sr (Mz rfl (fw (.int .u64 ((p0 % 128 : Nat) : Int)) (Yl.int (e := Int.tmod ((p0 : Nat) : Int) 128) yk (tmodN _ _)) (fw (.int .u8 (((UInt8.ofNat (p0 % 128)).toNat : Nat) : Int)) (Yl.int (e := IntKind.u8.wrap ((p0 % 128 : Nat) : Int)) yk (u8_wrap _)) (fw (.int .u8 ((((UInt8.ofNat (p0 % 128)) + (128 : UInt8)).toNat : Nat) : Int)) (Yl.int (e := IntKind.u8.wrap ((((UInt8.ofNat (p0 % 128)).toNat : Nat) : Int) + 128)) yk (u8_add (UInt8.ofNat (p0 % 128)) (128 : UInt8))) ?_))))))
 refine nrw [.int .u8 ((((UInt8.ofNat (p0 % 128)) + (128 : UInt8)).toNat : Nat) : Int)] 5 1 1 H ?_
 intro A26 w27 H28
 replace H28 : Own w D w27 [row A26 1 1 (List.flatMap eB ([((UInt8.ofNat (p0 % 128)) + (128 : UInt8))])) 5 1] := H28
 refine Mz rfl (fw (.int .u64 ((p0 / 128 : Nat) : Int)) (Yl.int (e := IntKind.u64.wrap (Int.tdiv ((p0 : Nat) : Int) 128)) yk (by rw [show (128 : Int) = ((128 : Nat) : Int) from rfl, tdivN, IntWalk.u64_in _ (by omega)])) ?_)
 obtain ⟨r34, hr35⟩ : ∃ q, r01_Num (p0 / 128) = q := ⟨_, rfl⟩
 obtain ⟨D29, HP30, ro31, bk32, rr33⟩ := Own.enter0 H28
 refine cl Tryz.call63 (self_ _ _ (p0 / 128) r34 HP30 (by omega) (by omega) hr35) ?_
 rintro _ w36 ⟨A39, c40, rfl, HQ37, hk41, hk42⟩
 have H38 := bk32 _ _ HQ37
 have hb43 := H38.rowC (i := 0) rfl
 replace hk41 : RecN (p0 / 128) r34.length := hk41
 replace hk42 : 1 ≤ r34.length ∧ r34.length ≤ 10 := hk42
 have H44 := H38.pk [1, 0]
 refine WL.do rfl (Do.appendW (k := 1) (m := r34.length) (El31) H44 rfl rfl (src_of Tryz.underlying31 (H44.rds (i := 1) rfl) (flat_one eB_one r34)) rfl (by omega) (s := List.length ([((UInt8.ofNat (p0 % 128)) + (128 : UInt8))] ++ r34)) (by first | omega | (simp only [List.length_append, List.length_cons, List.length_nil] <;> omega)) (List.flatMap_append).symm ?_)
 intro A45 c46 w47 H48
 have hl49 : List.length ([((UInt8.ofNat (p0 % 128)) + (128 : UInt8))] ++ r34) = 1 + r34.length := by simp only [List.length_append, List.length_cons, List.length_nil]
 refine An rfl (rt (rs ?_))
 have H50 := H48.pk [0]
 obtain rfl : _ = ([((UInt8.ofNat (p0 % 128)) + (128 : UInt8))] ++ r34) := hr.symm.trans (et (r01_Num_eq _) (et (iN h21) (bnd_of hr35)))
 exact ⟨A45, c46, rfl, H50, (by first | exact RecN.one rfl | exact RecN.step (by omega) (by assumption) (by simp only [List.length_append, List.length_cons, List.length_nil]; omega)), (by first | (exact RecN.ten (RecN.one rfl) hh0) | (exact RecN.ten (RecN.step (by omega) (by assumption) (by simp only [List.length_append, List.length_cons, List.length_nil]; omega)) hh0))⟩
 termination_by p0
 decreasing_by all_goals omega
def r01_Text (p0 : List UInt8) : (List UInt8) :=
 bnd (r01_Num p0.length) fun yr26 => (yr26 ++ p0)
set_option maxRecDepth 100000 in
theorem r01_Text_ok (w : World) (D : Nat → Prop) (p0 : List UInt8) (r0 : List UInt8) (H : Own w D w []) (hh0 : p0.length ≤ 140737488351232) (hr : r01_Text p0 = r0) :
    Calls Tryz.prog 102 #[.string ⟨List.toArray p0⟩] w (Ret fun v w' => ∃ (B0 : Option Addr) (b0 : Nat), v = .slice B0 r0.length b0 ∧ Own w D w' [row B0 r0.length b0 (List.flatMap eB r0) 5 1] ∧ (r0.length ≤ p0.length + 10)) := by
 refine Calls.body (args := [.string ⟨List.toArray p0⟩]) Tryz.func102 rfl rfl rfl ?_
 show Wp _ _ _ [(0, .string ⟨List.toArray p0⟩)] _ _
 refine sr (Ar rfl (Mz rfl (Kz (.int .i64 ((p0.length : Nat) : Int)) (fw (.int .u64 ((p0.length : Nat) : Int)) (Yl.int (e := IntKind.u64.wrap ((p0.length : Nat) : Int)) yk (IntWalk.u64_in _ (by omega))) ?_))))
 obtain ⟨r26, hr27⟩ : ∃ q, r01_Num p0.length = q := ⟨_, rfl⟩
 obtain ⟨D21, HP22, ro23, bk24, rr25⟩ := Own.enter0 H
 refine cl Tryz.call63 (r01_Num_ok _ _ p0.length r26 HP22 (by omega) hr27) ?_
 rintro _ w28 ⟨A31, c32, rfl, HQ29, hk33, hk34⟩
 have H30 := bk24 _ _ HQ29
 have hb35 := H30.rowC (i := 0) rfl
 replace hk33 : RecN p0.length r26.length := hk33
 replace hk34 : 1 ≤ r26.length ∧ r26.length ≤ 10 := hk34
 refine Mz rfl ?_
 refine WL.do rfl (Do.appendW (k := r26.length) (m := p0.length) (El31) H30 rfl rfl (src_str Tryz.underlying9 rfl) rfl (by omega) (s := List.length (r26 ++ p0)) (by first | omega | (simp only [List.length_append, List.length_cons, List.length_nil] <;> omega)) (List.flatMap_append).symm ?_)
 intro A36 c37 w38 H39
 have hl40 : List.length (r26 ++ p0) = r26.length + p0.length := by simp only [List.length_append, List.length_cons, List.length_nil]
 refine An rfl (rt (rs ?_))
 have H41 := H39.pk [0]
 obtain rfl : _ = (r26 ++ p0) := hr.symm.trans (bnd_of hr27)
 exact ⟨A36, c37, rfl, H41, (by first | omega | (simp only [List.length_cons, List.length_nil, List.length_append]; omega))⟩
def r05_Seal (l0 : List UInt8) : (List UInt8) × Int :=
 if ((l0.length : Nat) : Int) > 4096 then ([], 2) else bnd (r01_Num l0.length) fun yr32 => bnd (r01_Sum (([83] ++ yr32) ++ l0)) fun yr59 => (((([83] ++ yr32) ++ l0) ++ [(UInt8.ofNat yr59), (UInt8.ofNat (yr59 / 256)), (UInt8.ofNat (yr59 / 65536)), (UInt8.ofNat (yr59 / 16777216))]), 0)
set_option maxRecDepth 100000 in
theorem r05_Seal_ok (w : World) (D : Nat → Prop) (A0 : Option Addr) (n0 c0 : Nat) (l0 : List UInt8) (r0 : List UInt8) (r1 : Int) (H : Own w D w []) (hx0 : Ro w D fun w' => Rds w' 1 A0 n0 (List.flatMap eB l0)) (hn0 : n0 = l0.length) (hl0 : l0.length * 1 ≤ 211106232532992) (hr : r05_Seal l0 = (r0, r1)) :
    Calls Tryz.prog 21 #[.slice A0 n0 c0] w (Ret fun v w' => ∃ (B0 : Option Addr) (b0 : Nat), v = .tuple #[.slice B0 r0.length b0, .int .i64 r1] ∧ Own w D w' [row B0 r0.length b0 (List.flatMap eB r0) 5 1] ∧ (r0.length ≤ l0.length + 15)) := by
 subst hn0
 refine Calls.body (args := [.slice A0 l0.length c0]) Tryz.func21 rfl rfl rfl ?_
 show Wp _ _ _ [(0, .slice A0 l0.length c0)] _ _
 refine sr (Az rfl (An rfl (Wp.seq (sr (Mz rfl (Kz (.int .i64 ((l0.length : Nat) : Int)) (Kz (.bool (decide (((l0.length : Nat) : Int) > 4096))) (nt ?_))))))))
 by_cases h21 : ((l0.length : Nat) : Int) > 4096
 refine jT (dT h21) (sr (Az rfl (An rfl (rt (tR (Fin.res (res2 rfl rfl rfl) ?_))))))
 have H22 : Own w D w [row none 0 0 (List.flatMap eB ([])) 5 1] := H.free (row_nil 5 1)
 have H23 := H22.pk [0]
 have e : r05_Seal l0 = ([], 2) := ip h21
 obtain ⟨rfl, rfl⟩ := pj2 (e.symm.trans hr)
 exact ⟨none, 0, rfl, H23, (by first | omega | (simp only [List.length_cons, List.length_nil, List.length_append]; omega) | exact Nat.zero_le _)⟩
 refine jF (dF h21) (sk (sr ?_))
 refine nrw [.int .u8 83] 5 1 1 H ?_
 intro A24 w25 H26
 replace H26 : Own w D w25 [row A24 1 1 (List.flatMap eB ([83])) 5 1] := H26
 refine Ar rfl (Mz rfl (Mz rfl (Kz (.int .i64 ((l0.length : Nat) : Int)) (fw (.int .u64 ((l0.length : Nat) : Int)) (Yl.int (e := IntKind.u64.wrap ((l0.length : Nat) : Int)) yk (IntWalk.u64_in _ (by omega))) ?_))))
 obtain ⟨r32, hr33⟩ : ∃ q, r01_Num l0.length = q := ⟨_, rfl⟩
 obtain ⟨D27, HP28, ro29, bk30, rr31⟩ := Own.enter0 H26
 refine cl Tryz.call63 (r01_Num_ok _ _ l0.length r32 HP28 (by omega) hr33) ?_
 rintro _ w34 ⟨A37, c38, rfl, HQ35, hk39, hk40⟩
 have H36 := bk30 _ _ HQ35
 have hb41 := H36.rowC (i := 0) rfl
 replace hk39 : RecN l0.length r32.length := hk39
 replace hk40 : 1 ≤ r32.length ∧ r32.length ≤ 10 := hk40
 have H42 := H36.pk [1, 0]
 refine WL.do rfl (Do.appendW (k := 1) (m := r32.length) (El31) H42 rfl rfl (src_of Tryz.underlying31 (H42.rds (i := 1) rfl) (flat_one eB_one r32)) rfl (by omega) (s := List.length ([83] ++ r32)) (by first | omega | (simp only [List.length_append, List.length_cons, List.length_nil] <;> omega)) (List.flatMap_append).symm ?_)
 intro A43 c44 w45 H46
 have hl47 : List.length ([83] ++ r32) = 1 + r32.length := by simp only [List.length_append, List.length_cons, List.length_nil]
 refine An rfl (Wp.seq ?_)
 have H48 := H46.pk [0]
 refine Wp.region (Mz rfl (Mz rfl ?_))
 refine WL.do rfl (Do.appendW (k := List.length ([83] ++ r32)) (m := l0.length) (El31) H48 rfl rfl (src_of Tryz.underlying31 (H48.ro hx0) (flat_one eB_one l0)) rfl (by omega) (s := List.length (([83] ++ r32) ++ l0)) (by first | omega | (simp only [List.length_append, List.length_cons, List.length_nil] <;> omega)) (List.flatMap_append).symm ?_)
 intro A49 c50 w51 H52
 have hl53 : List.length (([83] ++ r32) ++ l0) = (List.length ([83] ++ r32)) + l0.length := by simp only [List.length_append, List.length_cons, List.length_nil]
 refine Ar rfl (Mz rfl ?_)
 obtain ⟨r59, hr60⟩ : ∃ q, r01_Sum (([83] ++ r32) ++ l0) = q := ⟨_, rfl⟩
 obtain ⟨D54, HP55, ro56, bk57, rr58⟩ := Own.enter0 H52
 refine cl Tryz.call65 (r01_Sum_ok _ _ A49 (List.length (([83] ++ r32) ++ l0)) c50 (([83] ++ r32) ++ l0) r59 HP55 (rr58 _ 0 _ rfl row_rds) rfl (by first | omega | (simp only [List.length_append, List.length_cons, List.length_nil, List.length_take, List.length_drop, List.length_set]; omega)) (by first | omega | (simp only [List.length_cons, List.length_nil, List.length_append]; omega)) hr60) ?_
 rintro _ w61 ⟨rfl, HQ62, hk64⟩
 have H63 := bk57 _ _ HQ62
 replace hk64 : r59 ≤ 4294967295 := hk64
 refine WL.do rfl (Do.call Tryz.call64 rfl ?_ (fun _ _ k => k))
 refine Calls.body (args := [.int .u32 ((r59 : Nat) : Int)]) Tryz.func64 rfl rfl rfl ?_
 show Wp _ _ _ [(0, .int .u32 ((r59 : Nat) : Int))] _ _
 refine sr ?_
 refine npw [.int .u8 0, .int .u8 0, .int .u8 0, .int .u8 0] 90 H63 ?_
 intro g65 w66 H67
 refine ns (Mz rfl (fw (.int .u8 (((UInt8.ofNat r59).toNat : Nat) : Int)) (Yl.int (e := IntKind.u8.wrap ((r59 : Nat) : Int)) yk (u8_wrap _)) (Mz rfl (fw (.int .u32 ((r59 / 256 : Nat) : Int)) (Yl.int (e := Int.fdiv ((r59 : Nat) : Int) 256) yk (shr_nat _ 8 _ (by decide))) (fw (.int .u8 (((UInt8.ofNat (r59 / 256)).toNat : Nat) : Int)) (Yl.int (e := IntKind.u8.wrap ((r59 / 256 : Nat) : Int)) yk (u8_wrap _)) (Mz rfl (fw (.int .u32 ((r59 / 65536 : Nat) : Int)) (Yl.int (e := Int.fdiv ((r59 : Nat) : Int) 65536) yk (shr_nat _ 16 _ (by decide))) (fw (.int .u8 (((UInt8.ofNat (r59 / 65536)).toNat : Nat) : Int)) (Yl.int (e := IntKind.u8.wrap ((r59 / 65536 : Nat) : Int)) yk (u8_wrap _)) (Mz rfl (fw (.int .u32 ((r59 / 16777216 : Nat) : Int)) (Yl.int (e := Int.fdiv ((r59 : Nat) : Int) 16777216) yk (shr_nat _ 24 _ (by decide))) (fw (.int .u8 (((UInt8.ofNat (r59 / 16777216)).toNat : Nat) : Int)) (Yl.int (e := IntKind.u8.wrap ((r59 / 16777216 : Nat) : Int)) yk (u8_wrap _)) (Kz (.agg #[.int .u8 (((UInt8.ofNat r59).toNat : Nat) : Int), .int .u8 (((UInt8.ofNat (r59 / 256)).toNat : Nat) : Int), .int .u8 (((UInt8.ofNat (r59 / 65536)).toNat : Nat) : Int), .int .u8 (((UInt8.ofNat (r59 / 16777216)).toNat : Nat) : Int)]) ?_))))))))))))
 refine sto [.int .u8 (((UInt8.ofNat r59).toNat : Nat) : Int), .int .u8 (((UInt8.ofNat (r59 / 256)).toNat : Nat) : Int), .int .u8 (((UInt8.ofNat (r59 / 65536)).toNat : Nat) : Int), .int .u8 (((UInt8.ofNat (r59 / 16777216)).toNat : Nat) : Int)] 0 H67 Tryz.sizeOf90 ?_
 intro w68 H69
 refine nt (rt (Fin.res (resC rfl rfl (Lds.agg (cs := [.int .u8 (((UInt8.ofNat r59).toNat : Nat) : Int), .int .u8 (((UInt8.ofNat (r59 / 256)).toNat : Nat) : Int), .int .u8 (((UInt8.ofNat (r59 / 65536)).toNat : Nat) : Int), .int .u8 (((UInt8.ofNat (r59 / 16777216)).toNat : Nat) : Int)]) Tryz.isAgg90 Tryz.sizeOf90 ((H69.cls (i := 0) rfl).lit (k := 0) (m := 4) rfl))) ?_))
 refine npw [.int .u8 0, .int .u8 0, .int .u8 0, .int .u8 0] 90 H69 ?_
 intro g70 w71 H72
 refine sto [.int .u8 (((UInt8.ofNat r59).toNat : Nat) : Int), .int .u8 (((UInt8.ofNat (r59 / 256)).toNat : Nat) : Int), .int .u8 (((UInt8.ofNat (r59 / 65536)).toNat : Nat) : Int), .int .u8 (((UInt8.ofNat (r59 / 16777216)).toNat : Nat) : Int)] 0 H72 Tryz.sizeOf90 ?_
 intro w73 H74
 refine nt (Wp.seq ?_)
 have H75 := H74.pk [0, 2]
 refine Wp.region (Mz rfl (Kz (.pointer (some ⟨g70, 0, none⟩)) (Lz (.int .u8 (((UInt8.ofNat r59).toNat : Nat) : Int)) H75 0 Tryz.isAgg5 (Kz (.pointer (some ⟨g70, 1, none⟩)) (Lz (.int .u8 (((UInt8.ofNat (r59 / 256)).toNat : Nat) : Int)) H75 0 Tryz.isAgg5 (Kz (.pointer (some ⟨g70, 2, none⟩)) (Lz (.int .u8 (((UInt8.ofNat (r59 / 65536)).toNat : Nat) : Int)) H75 0 Tryz.isAgg5 (Kz (.pointer (some ⟨g70, 3, none⟩)) (Lz (.int .u8 (((UInt8.ofNat (r59 / 16777216)).toNat : Nat) : Int)) H75 0 Tryz.isAgg5 ?_)))))))))
 refine nrw [.int .u8 (((UInt8.ofNat r59).toNat : Nat) : Int), .int .u8 (((UInt8.ofNat (r59 / 256)).toNat : Nat) : Int), .int .u8 (((UInt8.ofNat (r59 / 65536)).toNat : Nat) : Int), .int .u8 (((UInt8.ofNat (r59 / 16777216)).toNat : Nat) : Int)] 5 1 4 H75 ?_
 intro A76 w77 H78
 replace H78 := Own.reh (y := row A76 4 4 (List.flatMap eB ([(UInt8.ofNat r59), (UInt8.ofNat (r59 / 256)), (UInt8.ofNat (r59 / 65536)), (UInt8.ofNat (r59 / 16777216))])) 5 1) rfl H78
 have H79 := H78.pk [2, 0, 1]
 refine WL.do rfl (Do.appendW (k := List.length (([83] ++ r32) ++ l0)) (m := 4) (El31) H79 rfl rfl (src_of Tryz.underlying31 (H79.rds (i := 1) rfl) (flat_one eB_one ([(UInt8.ofNat r59), (UInt8.ofNat (r59 / 256)), (UInt8.ofNat (r59 / 65536)), (UInt8.ofNat (r59 / 16777216))]))) rfl (by omega) (s := List.length ((([83] ++ r32) ++ l0) ++ [(UInt8.ofNat r59), (UInt8.ofNat (r59 / 256)), (UInt8.ofNat (r59 / 65536)), (UInt8.ofNat (r59 / 16777216))])) (by first | omega | (simp only [List.length_append, List.length_cons, List.length_nil] <;> omega)) (List.flatMap_append).symm ?_)
 intro A80 c81 w82 H83
 have hl84 : List.length ((([83] ++ r32) ++ l0) ++ [(UInt8.ofNat r59), (UInt8.ofNat (r59 / 256)), (UInt8.ofNat (r59 / 65536)), (UInt8.ofNat (r59 / 16777216))]) = (List.length (([83] ++ r32) ++ l0)) + 4 := by simp only [List.length_append, List.length_cons, List.length_nil]
 refine Az rfl (An rfl (rt (Fin.res (res2 rfl rfl rfl) ?_)))
 have H85 := H83.pk [0]
 have e : r05_Seal l0 = (((([83] ++ r32) ++ l0) ++ [(UInt8.ofNat r59), (UInt8.ofNat (r59 / 256)), (UInt8.ofNat (r59 / 65536)), (UInt8.ofNat (r59 / 16777216))]), 0) := et (iN h21) (et (bnd_of hr33) (bnd_of hr60))
 obtain ⟨rfl, rfl⟩ := pj2 (e.symm.trans hr)
 exact ⟨A80, c81, rfl, H85, (by first | omega | (simp only [List.length_cons, List.length_nil, List.length_append]; omega) | exact Nat.zero_le _)⟩
def r18_Text (l0 : List UInt8) (p1 : List UInt8) : (List UInt8) :=
 bnd (r01_Text p1) fun yr26 => (l0 ++ yr26)
set_option maxRecDepth 100000 in
theorem r18_Text_ok (w : World) (D : Nat → Prop) (A0 : Option Addr) (n0 c0 : Nat) (l0 : List UInt8) (p1 : List UInt8) (r0 : List UInt8) (H : Own w D w [row A0 n0 c0 (List.flatMap eB l0) 5 1]) (hn0 : n0 = l0.length) (hl0 : l0.length * 1 ≤ 211106232532992) (hh0 : l0.length ≤ 5000000000 ∧ p1.length ≤ 16) (hr : r18_Text l0 p1 = r0) :
    Calls Tryz.prog 67 #[.slice A0 n0 c0, .string ⟨List.toArray p1⟩] w (Ret fun v w' => ∃ (B0 : Option Addr) (b0 : Nat), v = .slice B0 r0.length b0 ∧ Own w D w' [row B0 r0.length b0 (List.flatMap eB r0) 5 1] ∧ (r0.length ≤ l0.length + p1.length + 10)) := by
 subst hn0
 have hc0 := H.rowC (i := 0) rfl
 refine Calls.body (args := [.slice A0 l0.length c0, .string ⟨List.toArray p1⟩]) Tryz.func67 rfl rfl rfl ?_
 show Wp _ _ _ [(0, .slice A0 l0.length c0), (1, .string ⟨List.toArray p1⟩)] _ _
 refine sr (Ar rfl (Mz rfl (Mz rfl ?_)))
 obtain ⟨r26, hr27⟩ : ∃ q, r01_Text p1 = q := ⟨_, rfl⟩
 obtain ⟨D21, HP22, ro23, bk24, rr25⟩ := Own.enter0 H
 refine cl Tryz.call102 (r01_Text_ok _ _ p1 r26 HP22 (by omega) hr27) ?_
 rintro _ w28 ⟨A31, c32, rfl, HQ29, hk33⟩
 have H30 := bk24 _ _ HQ29
 have hb34 := H30.rowC (i := 0) rfl
 replace hk33 : r26.length ≤ p1.length + 10 := hk33
 have H35 := H30.pk [1, 0]
 refine WL.do rfl (Do.appendW (k := l0.length) (m := r26.length) (El31) H35 rfl rfl (src_of Tryz.underlying31 (H35.rds (i := 1) rfl) (flat_one eB_one r26)) rfl (by omega) (s := List.length (l0 ++ r26)) (by first | omega | (simp only [List.length_append, List.length_cons, List.length_nil] <;> omega)) (List.flatMap_append).symm ?_)
 intro A36 c37 w38 H39
 have hl40 : List.length (l0 ++ r26) = l0.length + r26.length := by simp only [List.length_append, List.length_cons, List.length_nil]
 refine An rfl (rt (rs ?_))
 have H41 := H39.pk [0]
 obtain rfl : _ = (l0 ++ r26) := hr.symm.trans (bnd_of hr27)
 exact ⟨A36, c37, rfl, H41, (by first | omega | (simp only [List.length_cons, List.length_nil, List.length_append]; omega))⟩
def r18_Ops_L0 : List OpD → List UInt8 → (List UInt8)
  | [], l45 => l45
  | x59 :: q47, l45 => bnd (r18_Text (l45 ++ [(u8I x59.xKind)]) x59.xKey) fun yr86 => bnd (r18_Text yr86 x59.xValue) fun yr102 => bnd (r18_Text yr102 x59.xLo) fun yr118 => bnd (r18_Text yr118 x59.xHi) fun yr134 => r18_Ops_L0 q47 (yr134 ++ [(u8I x59.xMost)])
def r18_Ops (l0 : List UInt8) (l1 : List OpD) : (List UInt8) :=
 bnd (r01_Num l1.length) fun yr26 => bnd (r18_Ops_L0 l1 (l0 ++ yr26)) fun sLrbL => sLrbL
set_option maxRecDepth 100000 in
set_option maxHeartbeats 1000000 in
theorem r18_Ops_ok (w : World) (D : Nat → Prop) (A0 : Option Addr) (n0 c0 : Nat) (l0 : List UInt8) (A1 : Option Addr) (n1 c1 : Nat) (l1 : List OpD) (r0 : List UInt8) (H : Own w D w [row A0 n0 c0 (List.flatMap eB l0) 5 1]) (hn0 : n0 = l0.length) (hl0 : l0.length * 1 ≤ 211106232532992) (hx1 : Ro w D fun w' => Rds w' 6 A1 n1 (List.flatMap OpD.cells l1)) (hn1 : n1 = l1.length) (hl1 : l1.length * 80 ≤ 211106232532992) (hh0 : l0.length ≤ 1000000000) (hh1 : (l1.length ≤ 24 ∧ ∀ x ∈ l1, x.xKey.length ≤ 12 ∧ x.xValue.length ≤ 16 ∧ x.xLo.length ≤ 12 ∧ x.xHi.length ≤ 12)) (hr : r18_Ops l0 l1 = r0) :
    Calls Tryz.prog 68 #[.slice A0 n0 c0, .slice A1 n1 c1] w (Ret fun v w' => ∃ (B0 : Option Addr) (b0 : Nat), v = .slice B0 r0.length b0 ∧ Own w D w' [row B0 r0.length b0 (List.flatMap eB r0) 5 1] ∧ (r0.length ≤ l0.length + 10 + 94 * l1.length)) := by
 subst hn0 hn1
 have hc0 := H.rowC (i := 0) rfl
 have hh1a := hh1.1
 refine Calls.body (args := [.slice A0 l0.length c0, .slice A1 l1.length c1]) Tryz.func68 rfl rfl rfl ?_
 show Wp _ _ _ [(0, .slice A0 l0.length c0), (1, .slice A1 l1.length c1)] _ _
 refine sr (Ar rfl (Mz rfl (Mz rfl (Kz (.int .i64 ((l1.length : Nat) : Int)) (fw (.int .u64 ((l1.length : Nat) : Int)) (Yl.int (e := IntKind.u64.wrap ((l1.length : Nat) : Int)) yk (IntWalk.u64_in _ (by omega))) ?_)))))
 obtain ⟨r26, hr27⟩ : ∃ q, r01_Num l1.length = q := ⟨_, rfl⟩
 obtain ⟨D21, HP22, ro23, bk24, rr25⟩ := Own.enter0 H
 refine cl Tryz.call63 (r01_Num_ok _ _ l1.length r26 HP22 (by omega) hr27) ?_
 rintro _ w28 ⟨A31, c32, rfl, HQ29, hk33, hk34⟩
 have H30 := bk24 _ _ HQ29
 have hb35 := H30.rowC (i := 0) rfl
 replace hk33 : RecN l1.length r26.length := hk33
 replace hk34 : 1 ≤ r26.length ∧ r26.length ≤ 10 := hk34
 have H36 := H30.pk [1, 0]
 refine WL.do rfl (Do.appendW (k := l0.length) (m := r26.length) (El31) H36 rfl rfl (src_of Tryz.underlying31 (H36.rds (i := 1) rfl) (flat_one eB_one r26)) rfl (by omega) (s := List.length (l0 ++ r26)) (by first | omega | (simp only [List.length_append, List.length_cons, List.length_nil] <;> omega)) (List.flatMap_append).symm ?_)
 intro A37 c38 w39 H40
 have hl41 : List.length (l0 ++ r26) = l0.length + r26.length := by simp only [List.length_append, List.length_cons, List.length_nil]
 refine An rfl (Wp.seq (Wp.seq ?_))
 have H42 := H40.pk [0]
 refine Wp.region (Mz rfl (Kz (.int .i64 ((l1.length : Nat) : Int)) (Mn rfl (bo ?_))))
 have H48 := H42.pk [0]
 obtain ⟨I52, hI53⟩ : ∃ q : ((Option Addr) × Nat × (List UInt8) × Nat) → World → Prop, q = fun (i : (Option Addr) × Nat × (List UInt8) × Nat) w' => Own w D w' [row i.1 i.2.2.1.length i.2.1 (List.flatMap eB i.2.2.1) 5 1] ∧ (i.2.2.2 ≤ l1.length ∧ ((i.2.2.1.length : Nat) : Int) ≤ ((l0.length : Nat) : Int) + 10 + 94 * ((i.2.2.2 : Nat) : Int) ∧ r18_Ops_L0 l1 (l0 ++ r26) = r18_Ops_L0 (List.drop i.2.2.2 l1) i.2.2.1) := ⟨_, rfl⟩
 have dm54 : ∀ {A43 : Option Addr} {c44 : Nat} {l45 : List UInt8} {k46 : Nat} {w' : World}, I52 (A43, c44, l45, k46) w' ↔ Own w D w' [row A43 l45.length c44 (List.flatMap eB l45) 5 1] ∧ k46 ≤ l1.length ∧ ((l45.length : Nat) : Int) ≤ ((l0.length : Nat) : Int) + 10 + 94 * ((k46 : Nat) : Int) ∧ r18_Ops_L0 l1 (l0 ++ r26) = r18_Ops_L0 (List.drop k46 l1) l45 := by intros; subst hI53; exact Iff.rfl
 refine Wp.loop (fun i : (Option Addr) × Nat × (List UInt8) × Nat => [(0, .slice i.1 i.2.2.1.length i.2.1), (15, .int .i64 ((i.2.2.2 : Nat) : Int)), (14, .int .i64 ((l1.length : Nat) : Int)), (13, .slice A1 l1.length c1), (4, .slice none 0 0)]) I52 (fun i => l1.length - i.2.2.2) (A37, c38, (l0 ++ r26), 0) ⟨rfl, rfl, rfl, rfl, rfl, trivial⟩ (dm54.2 ⟨H48, by omega, by omega, rfl⟩) ?_
 rintro ⟨A43, c44, l45, k46⟩ w49 hf51
 show Wp _ _ _ [(0, .slice A43 l45.length c44), (15, .int .i64 ((k46 : Nat) : Int)), (14, .int .i64 ((l1.length : Nat) : Int)), (13, .slice A1 l1.length c1), (4, .slice none 0 0)] _ _
 obtain ⟨H50, hi56, hi57, hq55⟩ := dm54.1 hf51
 refine sr (Kz (.bool (decide (((k46 : Nat) : Int) < ((l1.length : Nat) : Int)))) (nt (Wp.seq ?_)))
 by_cases h58 : ((k46 : Nat) : Int) < ((l1.length : Nat) : Int)
 obtain ⟨x59, hx60⟩ := rds_at (ls := l1) (i := k46) OpD.len (by decide) (H50.ro hx1) (by first | omega | (simp; done) | (simp; omega))
 have hz61 : x59.xKey.length ≤ 12 ∧ x59.xValue.length ≤ 16 ∧ x59.xLo.length ≤ 12 ∧ x59.xHi.length ≤ 12 := hh1.2 _ (List.mem_of_getElem? hx60)
 have hd62 := drop_at hx60
 refine jT (dT h58) (sk (Wp.seq (bo (sr (fw (.pointer (some ⟨ab A1, ao A1 + k46 * 6, none⟩)) (Yl.indexAddr (El25) rfl rfl ((H50.ro hx1).addr (i := k46) (by omega)) (by omega)) (fw (.agg (OpD.cells x59).toArray) (Yl.load rfl (Lds.agg (cs := (OpD.cells x59)) Tryz.isAgg64 Tryz.sizeOf64 ((H50.ro hx1).elem OpD.len hx60 (by decide)))) ?_))))))
 refine npw [.int .i64 0, .string ⟨List.toArray ([])⟩, .string ⟨List.toArray ([])⟩, .string ⟨List.toArray ([])⟩, .string ⟨List.toArray ([])⟩, .int .i64 0] 64 H50 ?_
 intro g63 w64 H65
 refine sto (OpD.cells x59) 0 H65 Tryz.sizeOf64 ?_
 intro w66 H67
 refine ns (Mz rfl (Kz (.pointer (some ⟨g63, 0, none⟩)) (Lz (.int .i64 x59.xKind) H67 0 Tryz.isAgg3 (fw (.int .u8 (((u8I x59.xKind).toNat : Nat) : Int)) (Yl.int (e := IntKind.u8.wrap x59.xKind) yk (u8I_wrap _)) ?_))))
 refine nrw [.int .u8 (((u8I x59.xKind).toNat : Nat) : Int)] 5 1 1 H67 ?_
 intro A68 w69 H70
 replace H70 := Own.reh (y := row A68 1 1 (List.flatMap eB ([(u8I x59.xKind)])) 5 1) rfl H70
 have H71 := H70.pk [2, 0, 1]
 refine WL.do rfl (Do.appendW (k := l45.length) (m := 1) (El31) H71 rfl rfl (src_of Tryz.underlying31 (H71.rds (i := 1) rfl) (flat_one eB_one ([(u8I x59.xKind)]))) rfl (by omega) (s := List.length (l45 ++ [(u8I x59.xKind)])) (by first | omega | (simp only [List.length_append, List.length_cons, List.length_nil] <;> omega)) (List.flatMap_append).symm ?_)
 intro A72 c73 w74 H75
 have hl76 : List.length (l45 ++ [(u8I x59.xKind)]) = l45.length + 1 := by simp only [List.length_append, List.length_cons, List.length_nil]
 refine An rfl (Wp.seq ?_)
 have H77 := H75.pk [1, 2, 0]
 have H79 := H77.drew
 refine Wp.drawnX [] (fun W => ∃ L', Own w D W ([row A68 1 1 (List.flatMap eB ([(u8I x59.xKind)])) 5 1, blk g63 (OpD.cells x59) 64] ++ L')) (by kernel_rfl) (by kernel_rfl) (NoP.then (NoP.block (NoP.then (NoP.then (NoP.block (NoP.then NoP.base)))))) ⟨_, H79⟩ ?_
 revert H79
 generalize World.drew w74 = w78
 intro H79
 refine GX.take (v := .slice A72 (List.length (l45 ++ [(u8I x59.xKind)])) c73) (rs := []) 0 rfl (by kernel_rfl) (fun _ _ => Yl.move rfl) (GX.take (v := .pointer (some ⟨g63, 1, none⟩)) (rs := []) 1 rfl (by kernel_rfl) (fun _ _ => yk) (GX.take (v := .string ⟨List.toArray x59.xKey⟩) (rs := []) 2 rfl (by kernel_rfl) (fun _ ⟨_, H9⟩ => Yl.load rfl (Lds.one Tryz.isAgg9 (Cls.of (H9.cls (i := 1) rfl) rfl))) (GX.take (v := .pointer (some ⟨g63, 2, none⟩)) (rs := []) 4 rfl (by kernel_rfl) (fun _ _ => yk) (GX.take (v := .string ⟨List.toArray x59.xValue⟩) (rs := []) 5 rfl (by kernel_rfl) (fun _ ⟨_, H9⟩ => Yl.load rfl (Lds.one Tryz.isAgg9 (Cls.of (H9.cls (i := 1) rfl) rfl))) (GX.take (v := .pointer (some ⟨g63, 3, none⟩)) (rs := []) 7 rfl (by kernel_rfl) (fun _ _ => yk) (GX.take (v := .string ⟨List.toArray x59.xLo⟩) (rs := []) 8 rfl (by kernel_rfl) (fun _ ⟨_, H9⟩ => Yl.load rfl (Lds.one Tryz.isAgg9 (Cls.of (H9.cls (i := 1) rfl) rfl))) (GX.take (v := .pointer (some ⟨g63, 4, none⟩)) (rs := []) 10 rfl (by kernel_rfl) (fun _ _ => yk) (GX.take (v := .string ⟨List.toArray x59.xHi⟩) (rs := []) 11 rfl (by kernel_rfl) (fun _ ⟨_, H9⟩ => Yl.load rfl (Lds.one Tryz.isAgg9 (Cls.of (H9.cls (i := 1) rfl) rfl))) ?_))))))))
 have H80 := H79.pk [2, 0, 1]
 obtain ⟨r86, hr87⟩ : ∃ q, r18_Text (l45 ++ [(u8I x59.xKind)]) x59.xKey = q := ⟨_, rfl⟩
 obtain ⟨D81, HP82, ro83, bk84, rr85⟩ := Own.enter1 H80
 refine GX.do 3 rfl (by kernel_rfl) (Do.call Tryz.call67 rfl (r18_Text_ok _ _ A72 (List.length (l45 ++ [(u8I x59.xKind)])) c73 (l45 ++ [(u8I x59.xKind)]) x59.xKey r86 HP82 rfl (by first | omega | (simp only [List.length_append, List.length_cons, List.length_nil, List.length_take, List.length_drop, List.length_set]; omega)) (by first | omega | (simp only [List.length_cons, List.length_nil, List.length_append]; omega)) hr87) ?_)
 rintro _ w88 ⟨A91, c92, rfl, HQ89, hk93⟩
 have H90 := bk84 _ _ HQ89
 have hb94 := H90.rowC (i := 0) rfl
 replace hk93 : r86.length ≤ List.length (l45 ++ [(u8I x59.xKind)]) + x59.xKey.length + 10 := hk93
 have H95 := H90.pk [1, 2, 0]
 refine ⟨.inr ⟨_, H95⟩, ?_⟩
 have H96 := H95.pk [2, 0, 1]
 obtain ⟨r102, hr103⟩ : ∃ q, r18_Text r86 x59.xValue = q := ⟨_, rfl⟩
 obtain ⟨D97, HP98, ro99, bk100, rr101⟩ := Own.enter1 H96
 refine GX.do 6 rfl (by kernel_rfl) (Do.call Tryz.call67 rfl (r18_Text_ok _ _ A91 r86.length c92 r86 x59.xValue r102 HP98 rfl (by omega) (by first | omega | (simp only [List.length_cons, List.length_nil, List.length_append]; omega)) hr103) ?_)
 rintro _ w104 ⟨A107, c108, rfl, HQ105, hk109⟩
 have H106 := bk100 _ _ HQ105
 have hb110 := H106.rowC (i := 0) rfl
 replace hk109 : r102.length ≤ r86.length + x59.xValue.length + 10 := hk109
 have H111 := H106.pk [1, 2, 0]
 refine ⟨.inr ⟨_, H111⟩, ?_⟩
 have H112 := H111.pk [2, 0, 1]
 obtain ⟨r118, hr119⟩ : ∃ q, r18_Text r102 x59.xLo = q := ⟨_, rfl⟩
 obtain ⟨D113, HP114, ro115, bk116, rr117⟩ := Own.enter1 H112
 refine GX.do 9 rfl (by kernel_rfl) (Do.call Tryz.call67 rfl (r18_Text_ok _ _ A107 r102.length c108 r102 x59.xLo r118 HP114 rfl (by omega) (by first | omega | (simp only [List.length_cons, List.length_nil, List.length_append]; omega)) hr119) ?_)
 rintro _ w120 ⟨A123, c124, rfl, HQ121, hk125⟩
 have H122 := bk116 _ _ HQ121
 have hb126 := H122.rowC (i := 0) rfl
 replace hk125 : r118.length ≤ r102.length + x59.xLo.length + 10 := hk125
 have H127 := H122.pk [1, 2, 0]
 refine ⟨.inr ⟨_, H127⟩, ?_⟩
 have H128 := H127.pk [2, 0, 1]
 obtain ⟨r134, hr135⟩ : ∃ q, r18_Text r118 x59.xHi = q := ⟨_, rfl⟩
 obtain ⟨D129, HP130, ro131, bk132, rr133⟩ := Own.enter1 H128
 refine GX.do 12 rfl (by kernel_rfl) (Do.call Tryz.call67 rfl (r18_Text_ok _ _ A123 r118.length c124 r118 x59.xHi r134 HP130 rfl (by omega) (by first | omega | (simp only [List.length_cons, List.length_nil, List.length_append]; omega)) hr135) ?_)
 rintro _ w136 ⟨A139, c140, rfl, HQ137, hk141⟩
 have H138 := bk132 _ _ HQ137
 have hb142 := H138.rowC (i := 0) rfl
 replace hk141 : r134.length ≤ r118.length + x59.xHi.length + 10 := hk141
 have H143 := H138.pk [1, 2, 0]
 refine ⟨.inr ⟨_, H143⟩, ?_⟩
 refine GX.take (v := .slice A139 r134.length c140) (rs := []) 13 rfl (by kernel_rfl) (fun _ _ => Yl.assign rfl) (GX.done (by kernel_rfl) (Fin.then (Wp.region (Mz rfl (Kz (.pointer (some ⟨g63, 5, none⟩)) (Lz (.int .i64 x59.xMost) H143 1 Tryz.isAgg3 (fw (.int .u8 (((u8I x59.xMost).toNat : Nat) : Int)) (Yl.int (e := IntKind.u8.wrap x59.xMost) yk (u8I_wrap _)) ?_)))))))
 refine nrw [.int .u8 (((u8I x59.xMost).toNat : Nat) : Int)] 5 1 1 H143 ?_
 intro A144 w145 H146
 replace H146 := Own.reh (y := row A144 1 1 (List.flatMap eB ([(u8I x59.xMost)])) 5 1) rfl H146
 have H147 := H146.pk [3, 0, 1, 2]
 refine WL.do rfl (Do.appendW (k := r134.length) (m := 1) (El31) H147 rfl rfl (src_of Tryz.underlying31 (H147.rds (i := 1) rfl) (flat_one eB_one ([(u8I x59.xMost)]))) rfl (by omega) (s := List.length (r134 ++ [(u8I x59.xMost)])) (by first | omega | (simp only [List.length_append, List.length_cons, List.length_nil] <;> omega)) (List.flatMap_append).symm ?_)
 intro A148 c149 w150 H151
 have hl152 : List.length (r134 ++ [(u8I x59.xMost)]) = r134.length + 1 := by simp only [List.length_append, List.length_cons, List.length_nil]
 refine Az rfl (WL.nil (bN (Fin.then (Wp.region (fw (.int .i64 ((k46 + 1 : Nat) : Int)) (Yl.int (e := IntKind.i64.wrap (((k46 : Nat) : Int) + 1)) yk (by rw [IntWalk.i64_in _ (by omega)]; omega)) (Mz rfl (WL.nil ?_)))))))
 have H153 := H151.pk [0]
 exact Fin.round (A148, c149, (r134 ++ [(u8I x59.xMost)]), k46 + 1) ⟨rfl, rfl, rfl, rfl, rfl, trivial⟩ (dm54.2 ⟨H153, by omega, by omega, et (hq55) (et (congrArg (fun q => r18_Ops_L0 q l45) hd62) (et (bnd_of hr87) (et (bnd_of hr103) (et (bnd_of hr119) (bnd_of hr135)))))⟩) (by show l1.length - (k46 + 1) < l1.length - k46; omega)
 refine jF (dF h58) (Wp.exit (Fin.thenX ?_))
 have hL154 : r18_Ops_L0 l1 (l0 ++ r26) = l45 := et (hq55) (et (congrArg (fun q => r18_Ops_L0 q l45) (drop_end (ls := l1) (i := k46) (by omega))) rfl)
 refine Fin.thenX (Fin.blockX (Fin.then (sr (Mz rfl (An rfl (rt (rs ?_)))))))
 have H155 := H50.pk [0]
 obtain rfl : _ = l45 := hr.symm.trans (et (bnd_of hr27) (bnd_of hL154))
 exact ⟨A43, c44, rfl, H155, (by first | omega | (simp only [List.length_cons, List.length_nil, List.length_append]; omega))⟩
def r18_flag (l0 : List UInt8) (p1 : Bool) : (List UInt8) :=
 if p1 = true then (l0 ++ [1]) else (l0 ++ [0])
set_option maxRecDepth 100000 in
theorem r18_flag_ok (w : World) (D : Nat → Prop) (A0 : Option Addr) (n0 c0 : Nat) (l0 : List UInt8) (p1 : Bool) (r0 : List UInt8) (H : Own w D w [row A0 n0 c0 (List.flatMap eB l0) 5 1]) (hn0 : n0 = l0.length) (hl0 : l0.length * 1 ≤ 211106232532992) (hh0 : l0.length ≤ 4000000000) (hr : r18_flag l0 p1 = r0) :
    Calls Tryz.prog 66 #[.slice A0 n0 c0, .bool p1] w (Ret fun v w' => ∃ (B0 : Option Addr) (b0 : Nat), v = .slice B0 r0.length b0 ∧ Own w D w' [row B0 r0.length b0 (List.flatMap eB r0) 5 1] ∧ (r0.length ≤ l0.length + 1)) := by
 subst hn0
 have hc0 := H.rowC (i := 0) rfl
 refine Calls.body (args := [.slice A0 l0.length c0, .bool p1]) Tryz.func66 rfl rfl rfl ?_
 show Wp _ _ _ [(0, .slice A0 l0.length c0), (1, .bool p1)] _ _
 refine sr (An rfl (Wp.seq (sr (Mn rfl ?_))))
 rcases Bool.eq_false_or_eq_true (p1) with h21 | h21
 refine jT h21 (sr (Mz rfl ?_))
 refine nrw [.int .u8 1] 5 1 1 H ?_
 intro A22 w23 H24
 replace H24 := Own.reh (y := row A22 1 1 (List.flatMap eB ([1])) 5 1) rfl H24
 have H25 := H24.pk [1, 0]
 refine WL.do rfl (Do.appendW (k := l0.length) (m := 1) (El31) H25 rfl rfl (src_of Tryz.underlying31 (H25.rds (i := 1) rfl) (flat_one eB_one ([1]))) rfl (by omega) (s := List.length (l0 ++ [1])) (by first | omega | (simp only [List.length_append, List.length_cons, List.length_nil] <;> omega)) (List.flatMap_append).symm ?_)
 intro A26 c27 w28 H29
 have hl30 : List.length (l0 ++ [1]) = l0.length + 1 := by simp only [List.length_append, List.length_cons, List.length_nil]
 refine An rfl (rt (tR (rs ?_)))
 have H31 := H29.pk [0]
 obtain rfl : _ = (l0 ++ [1]) := hr.symm.trans (ip h21)
 exact ⟨A26, c27, rfl, H31, (by first | omega | (simp only [List.length_cons, List.length_nil, List.length_append]; omega))⟩
 refine jF h21 (sk (sr (Mz rfl ?_)))
 refine nrw [.int .u8 0] 5 1 1 H ?_
 intro A32 w33 H34
 replace H34 := Own.reh (y := row A32 1 1 (List.flatMap eB ([0])) 5 1) rfl H34
 have H35 := H34.pk [1, 0]
 refine WL.do rfl (Do.appendW (k := l0.length) (m := 1) (El31) H35 rfl rfl (src_of Tryz.underlying31 (H35.rds (i := 1) rfl) (flat_one eB_one ([0]))) rfl (by omega) (s := List.length (l0 ++ [0])) (by first | omega | (simp only [List.length_append, List.length_cons, List.length_nil] <;> omega)) (List.flatMap_append).symm ?_)
 intro A36 c37 w38 H39
 have hl40 : List.length (l0 ++ [0]) = l0.length + 1 := by simp only [List.length_append, List.length_cons, List.length_nil]
 refine An rfl (rt (rs ?_))
 have H41 := H39.pk [0]
 obtain rfl : _ = (l0 ++ [0]) := hr.symm.trans (ifF h21)
 exact ⟨A36, c37, rfl, H41, (by first | omega | (simp only [List.length_cons, List.length_nil, List.length_append]; omega))⟩
def r18_Res_L1 : List PairD → List UInt8 → (List UInt8)
  | [], l127 => l127
  | x141 :: q129, l127 => bnd (r18_Text l127 x141.xKey) fun yr158 => bnd (r18_Text yr158 x141.xValue) fun yr174 => r18_Res_L1 q129 yr174
def r18_Res_L0 : List ResultT → List UInt8 → (List UInt8)
  | [], l45 => l45
  | x59 :: q47, l45 => bnd (r18_flag l45 x59.xFound) fun yr78 => bnd (r18_Text yr78 x59.xValue) fun yr94 => bnd (r01_Num x59.xPairs.ls.length) fun yr109 => bnd (r18_Res_L1 x59.xPairs.ls (yr94 ++ yr109)) fun sLrbLsbbbL => r18_Res_L0 q47 sLrbLsbbbL
def r18_Res (l0 : List UInt8) (l1 : List ResultT) : (List UInt8) :=
 bnd (r01_Num l1.length) fun yr26 => bnd (r18_Res_L0 l1 (l0 ++ yr26)) fun sLrbL => sLrbL
set_option maxRecDepth 100000 in
set_option maxHeartbeats 1000000 in
theorem r18_Res_ok (w : World) (D : Nat → Prop) (A0 : Option Addr) (n0 c0 : Nat) (l0 : List UInt8) (A1 : Option Addr) (n1 c1 : Nat) (d1 : List ResultD) (l1 : List ResultT) (r0 : List UInt8) (H : Own w D w [row A0 n0 c0 (List.flatMap eB l0) 5 1]) (hn0 : n0 = l0.length) (hl0 : l0.length * 1 ≤ 211106232532992) (hd1 : List.map ResultD.abs d1 = l1) (hx1 : Ro w D fun w' => Rds w' 3 A1 n1 (List.flatMap ResultD.cells d1)) (hm1 : ∀ x ∈ d1, Ro w D (fun w' => Rds w' 2 x.xPairs.A x.xPairs.ls.length (List.flatMap PairD.cells x.xPairs.ls)) ∧ (x.xPairs.ls.length ≤ x.xPairs.c ∧ x.xPairs.ls.length ≤ 9223372036854775807)) (hn1 : n1 = l1.length) (hl1 : l1.length * 48 ≤ 211106232532992) (hh0 : l0.length ≤ 1000000000) (hh1 : (l1.length ≤ 24 ∧ ∀ x ∈ l1, x.xValue.length ≤ 16 ∧ x.xPairs.ls.length ≤ 4 ∧ ∀ q ∈ x.xPairs.ls, q.xKey.length ≤ 12 ∧ q.xValue.length ≤ 16)) (hr : r18_Res l0 l1 = r0) :
    Calls Tryz.prog 69 #[.slice A0 n0 c0, .slice A1 n1 c1] w (Ret fun v w' => ∃ (B0 : Option Addr) (b0 : Nat), v = .slice B0 r0.length b0 ∧ Own w D w' [row B0 r0.length b0 (List.flatMap eB r0) 5 1] ∧ (r0.length ≤ l0.length + 10 + 239 * l1.length)) := by
 subst hn0 hn1
 have hdl1 := abs_len hd1
 have hc0 := H.rowC (i := 0) rfl
 have hh1a := hh1.1
 refine Calls.body (args := [.slice A0 l0.length c0, .slice A1 l1.length c1]) Tryz.func69 rfl rfl rfl ?_
 show Wp _ _ _ [(0, .slice A0 l0.length c0), (1, .slice A1 l1.length c1)] _ _
 refine sr (Ar rfl (Mz rfl (Mz rfl (Kz (.int .i64 ((l1.length : Nat) : Int)) (fw (.int .u64 ((l1.length : Nat) : Int)) (Yl.int (e := IntKind.u64.wrap ((l1.length : Nat) : Int)) yk (IntWalk.u64_in _ (by omega))) ?_)))))
 obtain ⟨r26, hr27⟩ : ∃ q, r01_Num l1.length = q := ⟨_, rfl⟩
 obtain ⟨D21, HP22, ro23, bk24, rr25⟩ := Own.enter0 H
 refine cl Tryz.call63 (r01_Num_ok _ _ l1.length r26 HP22 (by omega) hr27) ?_
 rintro _ w28 ⟨A31, c32, rfl, HQ29, hk33, hk34⟩
 have H30 := bk24 _ _ HQ29
 have hb35 := H30.rowC (i := 0) rfl
 replace hk33 : RecN l1.length r26.length := hk33
 replace hk34 : 1 ≤ r26.length ∧ r26.length ≤ 10 := hk34
 have H36 := H30.pk [1, 0]
 refine WL.do rfl (Do.appendW (k := l0.length) (m := r26.length) (El31) H36 rfl rfl (src_of Tryz.underlying31 (H36.rds (i := 1) rfl) (flat_one eB_one r26)) rfl (by omega) (s := List.length (l0 ++ r26)) (by first | omega | (simp only [List.length_append, List.length_cons, List.length_nil] <;> omega)) (List.flatMap_append).symm ?_)
 intro A37 c38 w39 H40
 have hl41 : List.length (l0 ++ r26) = l0.length + r26.length := by simp only [List.length_append, List.length_cons, List.length_nil]
 refine An rfl (Wp.seq (Wp.seq ?_))
 have H42 := H40.pk [0]
 refine Wp.region (Mz rfl (Kz (.int .i64 ((l1.length : Nat) : Int)) (Mn rfl (bo ?_))))
 have H48 := H42.pk [0]
 obtain ⟨I52, hI53⟩ : ∃ q : ((Option Addr) × Nat × (List UInt8) × Nat) → World → Prop, q = fun (i : (Option Addr) × Nat × (List UInt8) × Nat) w' => Own w D w' [row i.1 i.2.2.1.length i.2.1 (List.flatMap eB i.2.2.1) 5 1] ∧ (i.2.2.2 ≤ l1.length ∧ ((i.2.2.1.length : Nat) : Int) ≤ ((l0.length : Nat) : Int) + 10 + 239 * ((i.2.2.2 : Nat) : Int) ∧ r18_Res_L0 l1 (l0 ++ r26) = r18_Res_L0 (List.drop i.2.2.2 l1) i.2.2.1) := ⟨_, rfl⟩
 have dm54 : ∀ {A43 : Option Addr} {c44 : Nat} {l45 : List UInt8} {k46 : Nat} {w' : World}, I52 (A43, c44, l45, k46) w' ↔ Own w D w' [row A43 l45.length c44 (List.flatMap eB l45) 5 1] ∧ k46 ≤ l1.length ∧ ((l45.length : Nat) : Int) ≤ ((l0.length : Nat) : Int) + 10 + 239 * ((k46 : Nat) : Int) ∧ r18_Res_L0 l1 (l0 ++ r26) = r18_Res_L0 (List.drop k46 l1) l45 := by intros; subst hI53; exact Iff.rfl
 refine Wp.loop (fun i : (Option Addr) × Nat × (List UInt8) × Nat => [(0, .slice i.1 i.2.2.1.length i.2.1), (17, .int .i64 ((i.2.2.2 : Nat) : Int)), (16, .int .i64 ((l1.length : Nat) : Int)), (15, .slice A1 l1.length c1), (4, .slice none 0 0)]) I52 (fun i => l1.length - i.2.2.2) (A37, c38, (l0 ++ r26), 0) ⟨rfl, rfl, rfl, rfl, rfl, trivial⟩ (dm54.2 ⟨H48, by omega, by omega, rfl⟩) ?_
 rintro ⟨A43, c44, l45, k46⟩ w49 hf51
 show Wp _ _ _ [(0, .slice A43 l45.length c44), (17, .int .i64 ((k46 : Nat) : Int)), (16, .int .i64 ((l1.length : Nat) : Int)), (15, .slice A1 l1.length c1), (4, .slice none 0 0)] _ _
 obtain ⟨H50, hi56, hi57, hq55⟩ := dm54.1 hf51
 refine sr (Kz (.bool (decide (((k46 : Nat) : Int) < ((l1.length : Nat) : Int)))) (nt (Wp.seq ?_)))
 by_cases h58 : ((k46 : Nat) : Int) < ((l1.length : Nat) : Int)
 obtain ⟨x59, hx60⟩ := rds_at (ls := d1) (i := k46) ResultD.len (by decide) (H50.ro hx1) (by first | omega | (simp; done) | (simp; omega))
 have hX61 := abs_at hd1 hx60
 have hb62 := (hm1 _ (List.mem_of_getElem? hx60)).2
 have hz63 : x59.xValue.length ≤ 16 ∧ x59.xPairs.ls.length ≤ 4 ∧ ∀ q ∈ x59.xPairs.ls, q.xKey.length ≤ 12 ∧ q.xValue.length ≤ 16 := hh1.2 _ (List.mem_of_getElem? hX61)
 have hz63a := hz63.1
 have hz63b := hz63.2.1
 have hd64 := drop_at hX61
 refine jT (dT h58) (sk (Wp.seq (bo (sr (fw (.pointer (some ⟨ab A1, ao A1 + k46 * 3, none⟩)) (Yl.indexAddr (El26) rfl rfl ((H50.ro hx1).addr (i := k46) (by omega)) (by omega)) (fw (.agg (ResultD.cells x59).toArray) (Yl.load rfl (Lds.agg (cs := (ResultD.cells x59)) Tryz.isAgg84 Tryz.sizeOf84 ((H50.ro hx1).elem ResultD.len hx60 (by decide)))) ?_))))))
 refine npw [.bool false, .string ⟨List.toArray ([])⟩, .slice none 0 0] 84 H50 ?_
 intro g65 w66 H67
 refine sto (ResultD.cells x59) 0 H67 Tryz.sizeOf84 ?_
 intro w68 H69
 refine nt (Wp.seq ?_)
 have H71 := H69.drew
 refine Wp.drawnX [] (fun W => ∃ L', Own w D W ([blk g65 (ResultD.cells x59) 84] ++ L')) (by kernel_rfl) (by kernel_rfl) (NoP.then (NoP.block (NoP.then (NoP.then (NoP.block (NoP.then NoP.base)))))) ⟨_, H71⟩ ?_
 revert H71
 generalize World.drew w68 = w70
 intro H71
 refine GX.take (v := .slice A43 l45.length c44) (rs := []) 0 rfl (by kernel_rfl) (fun _ _ => Yl.move rfl) (GX.take (v := .pointer (some ⟨g65, 0, none⟩)) (rs := []) 1 rfl (by kernel_rfl) (fun _ _ => yk) (GX.take (v := .bool x59.xFound) (rs := []) 2 rfl (by kernel_rfl) (fun _ ⟨_, H9⟩ => Yl.load rfl (Lds.one Tryz.isAgg4 (Cls.of (H9.cls (i := 0) rfl) rfl))) (GX.take (v := .pointer (some ⟨g65, 1, none⟩)) (rs := []) 4 rfl (by kernel_rfl) (fun _ _ => yk) (GX.take (v := .string ⟨List.toArray x59.xValue⟩) (rs := []) 5 rfl (by kernel_rfl) (fun _ ⟨_, H9⟩ => Yl.load rfl (Lds.one Tryz.isAgg9 (Cls.of (H9.cls (i := 0) rfl) rfl))) ?_))))
 have H72 := H71.pk [1, 0]
 obtain ⟨r78, hr79⟩ : ∃ q, r18_flag l45 x59.xFound = q := ⟨_, rfl⟩
 obtain ⟨D73, HP74, ro75, bk76, rr77⟩ := Own.enter1 H72
 refine GX.do 3 rfl (by kernel_rfl) (Do.call Tryz.call66 rfl (r18_flag_ok _ _ A43 l45.length c44 l45 x59.xFound r78 HP74 rfl (by omega) (by first | omega | (simp only [List.length_cons, List.length_nil, List.length_append]; omega)) hr79) ?_)
 rintro _ w80 ⟨A83, c84, rfl, HQ81, hk85⟩
 have H82 := bk76 _ _ HQ81
 have hb86 := H82.rowC (i := 0) rfl
 replace hk85 : r78.length ≤ l45.length + 1 := hk85
 have H87 := H82.pk [1, 0]
 refine ⟨.inr ⟨_, H87⟩, ?_⟩
 have H88 := H87.pk [1, 0]
 obtain ⟨r94, hr95⟩ : ∃ q, r18_Text r78 x59.xValue = q := ⟨_, rfl⟩
 obtain ⟨D89, HP90, ro91, bk92, rr93⟩ := Own.enter1 H88
 refine GX.do 6 rfl (by kernel_rfl) (Do.call Tryz.call67 rfl (r18_Text_ok _ _ A83 r78.length c84 r78 x59.xValue r94 HP90 rfl (by omega) (by first | omega | (simp only [List.length_cons, List.length_nil, List.length_append]; omega)) hr95) ?_)
 rintro _ w96 ⟨A99, c100, rfl, HQ97, hk101⟩
 have H98 := bk92 _ _ HQ97
 have hb102 := H98.rowC (i := 0) rfl
 replace hk101 : r94.length ≤ r78.length + x59.xValue.length + 10 := hk101
 have H103 := H98.pk [1, 0]
 refine ⟨.inr ⟨_, H103⟩, ?_⟩
 refine GX.take (v := .slice A99 r94.length c100) (rs := []) 7 rfl (by kernel_rfl) (fun _ _ => Yl.assign rfl) (GX.done (by kernel_rfl) (Fin.then (sr (Mz rfl (Kz (.pointer (some ⟨g65, 2, none⟩)) (Lz (.slice x59.xPairs.A x59.xPairs.ls.length x59.xPairs.c) H103 0 Tryz.isAgg82 (Kz (.int .i64 ((x59.xPairs.ls.length : Nat) : Int)) (fw (.int .u64 ((x59.xPairs.ls.length : Nat) : Int)) (Yl.int (e := IntKind.u64.wrap ((x59.xPairs.ls.length : Nat) : Int)) yk (IntWalk.u64_in _ (by omega))) ?_))))))))
 obtain ⟨r109, hr110⟩ : ∃ q, r01_Num x59.xPairs.ls.length = q := ⟨_, rfl⟩
 obtain ⟨D104, HP105, ro106, bk107, rr108⟩ := Own.enter0 H103
 refine cl Tryz.call63 (r01_Num_ok _ _ x59.xPairs.ls.length r109 HP105 (by omega) hr110) ?_
 rintro _ w111 ⟨A114, c115, rfl, HQ112, hk116, hk117⟩
 have H113 := bk107 _ _ HQ112
 have hb118 := H113.rowC (i := 0) rfl
 replace hk116 : RecN x59.xPairs.ls.length r109.length := hk116
 replace hk117 : 1 ≤ r109.length ∧ r109.length ≤ 10 := hk117
 have H119 := H113.pk [2, 0, 1]
 refine WL.do rfl (Do.appendW (k := r94.length) (m := r109.length) (El31) H119 rfl rfl (src_of Tryz.underlying31 (H119.rds (i := 1) rfl) (flat_one eB_one r109)) rfl (by omega) (s := List.length (r94 ++ r109)) (by first | omega | (simp only [List.length_append, List.length_cons, List.length_nil] <;> omega)) (List.flatMap_append).symm ?_)
 intro A120 c121 w122 H123
 have hl124 : List.length (r94 ++ r109) = r94.length + r109.length := by simp only [List.length_append, List.length_cons, List.length_nil]
 refine Ar rfl (Kz (.pointer (some ⟨g65, 2, none⟩)) (Lz (.slice x59.xPairs.A x59.xPairs.ls.length x59.xPairs.c) H123 2 Tryz.isAgg82 (Kz (.int .i64 ((x59.xPairs.ls.length : Nat) : Int)) (Mn rfl (bo ?_)))))
 have H130 := H123.pk [1, 2, 0]
 obtain ⟨I134, hI135⟩ : ∃ q : ((Option Addr) × Nat × (List UInt8) × Nat) → World → Prop, q = fun (i : (Option Addr) × Nat × (List UInt8) × Nat) w' => Own w D w' [row A114 r109.length c115 (List.flatMap eB r109) 5 1, blk g65 (ResultD.cells x59) 84, row i.1 i.2.2.1.length i.2.1 (List.flatMap eB i.2.2.1) 5 1] ∧ (i.2.2.2 ≤ x59.xPairs.ls.length ∧ ((i.2.2.1.length : Nat) : Int) ≤ ((List.length (r94 ++ r109) : Nat) : Int) + 48 * ((i.2.2.2 : Nat) : Int) ∧ r18_Res_L1 x59.xPairs.ls (r94 ++ r109) = r18_Res_L1 (List.drop i.2.2.2 x59.xPairs.ls) i.2.2.1) := ⟨_, rfl⟩
 have dm136 : ∀ {A125 : Option Addr} {c126 : Nat} {l127 : List UInt8} {k128 : Nat} {w' : World}, I134 (A125, c126, l127, k128) w' ↔ Own w D w' [row A114 r109.length c115 (List.flatMap eB r109) 5 1, blk g65 (ResultD.cells x59) 84, row A125 l127.length c126 (List.flatMap eB l127) 5 1] ∧ k128 ≤ x59.xPairs.ls.length ∧ ((l127.length : Nat) : Int) ≤ ((List.length (r94 ++ r109) : Nat) : Int) + 48 * ((k128 : Nat) : Int) ∧ r18_Res_L1 x59.xPairs.ls (r94 ++ r109) = r18_Res_L1 (List.drop k128 x59.xPairs.ls) l127 := by intros; subst hI135; exact Iff.rfl
 refine Wp.loop (fun i : (Option Addr) × Nat × (List UInt8) × Nat => [(0, .slice i.1 i.2.2.1.length i.2.1), (38, .int .i64 ((i.2.2.2 : Nat) : Int)), (37, .int .i64 ((x59.xPairs.ls.length : Nat) : Int)), (36, .slice x59.xPairs.A x59.xPairs.ls.length x59.xPairs.c), (35, .pointer (some ⟨g65, 2, none⟩)), (34, .slice A120 (List.length (r94 ++ r109)) c121), (33, .slice A114 r109.length c115), (32, .int .u64 ((x59.xPairs.ls.length : Nat) : Int)), (31, .int .i64 ((x59.xPairs.ls.length : Nat) : Int)), (30, .slice x59.xPairs.A x59.xPairs.ls.length x59.xPairs.c), (29, .pointer (some ⟨g65, 2, none⟩)), (28, .slice A99 r94.length c100), (27, .slice A99 r94.length c100), (24, .slice A83 r78.length c84), (26, .string ⟨List.toArray x59.xValue⟩), (25, .pointer (some ⟨g65, 1, none⟩)), (23, .bool x59.xFound), (22, .pointer (some ⟨g65, 0, none⟩)), (21, .slice A43 l45.length c44), (6, .pointer (some ⟨g65, 0, none⟩)), (20, .agg (ResultD.cells x59).toArray), (19, .pointer (some ⟨ab A1, ao A1 + k46 * 3, none⟩)), (18, .bool (decide (((k46 : Nat) : Int) < ((l1.length : Nat) : Int)))), (17, .int .i64 ((k46 : Nat) : Int)), (16, .int .i64 ((l1.length : Nat) : Int)), (15, .slice A1 l1.length c1), (4, .slice none 0 0)]) I134 (fun i => x59.xPairs.ls.length - i.2.2.2) (A120, c121, (r94 ++ r109), 0) ⟨rfl, rfl, rfl, rfl, rfl, rfl, rfl, rfl, rfl, rfl, rfl, rfl, rfl, rfl, rfl, rfl, rfl, rfl, rfl, rfl, rfl, rfl, rfl, rfl, rfl, rfl, rfl, trivial⟩ (dm136.2 ⟨H130, by omega, by omega, rfl⟩) ?_
 rintro ⟨A125, c126, l127, k128⟩ w131 hf133
 show Wp _ _ _ [(0, .slice A125 l127.length c126), (38, .int .i64 ((k128 : Nat) : Int)), (37, .int .i64 ((x59.xPairs.ls.length : Nat) : Int)), (36, .slice x59.xPairs.A x59.xPairs.ls.length x59.xPairs.c), (35, .pointer (some ⟨g65, 2, none⟩)), (34, .slice A120 (List.length (r94 ++ r109)) c121), (33, .slice A114 r109.length c115), (32, .int .u64 ((x59.xPairs.ls.length : Nat) : Int)), (31, .int .i64 ((x59.xPairs.ls.length : Nat) : Int)), (30, .slice x59.xPairs.A x59.xPairs.ls.length x59.xPairs.c), (29, .pointer (some ⟨g65, 2, none⟩)), (28, .slice A99 r94.length c100), (27, .slice A99 r94.length c100), (24, .slice A83 r78.length c84), (26, .string ⟨List.toArray x59.xValue⟩), (25, .pointer (some ⟨g65, 1, none⟩)), (23, .bool x59.xFound), (22, .pointer (some ⟨g65, 0, none⟩)), (21, .slice A43 l45.length c44), (6, .pointer (some ⟨g65, 0, none⟩)), (20, .agg (ResultD.cells x59).toArray), (19, .pointer (some ⟨ab A1, ao A1 + k46 * 3, none⟩)), (18, .bool (decide (((k46 : Nat) : Int) < ((l1.length : Nat) : Int)))), (17, .int .i64 ((k46 : Nat) : Int)), (16, .int .i64 ((l1.length : Nat) : Int)), (15, .slice A1 l1.length c1), (4, .slice none 0 0)] _ _
 obtain ⟨H132, hi138, hi139, hq137⟩ := dm136.1 hf133
 refine sr (Kz (.bool (decide (((k128 : Nat) : Int) < ((x59.xPairs.ls.length : Nat) : Int)))) (nt (Wp.seq ?_)))
 by_cases h140 : ((k128 : Nat) : Int) < ((x59.xPairs.ls.length : Nat) : Int)
 obtain ⟨x141, hx142⟩ := rds_at (ls := x59.xPairs.ls) (i := k128) PairD.len (by decide) (H132.ro (hm1 _ (List.mem_of_getElem? hx60)).1) (by first | omega | (simp; done) | (simp; omega))
 have hz143 : x141.xKey.length ≤ 12 ∧ x141.xValue.length ≤ 16 := (hh1.2 _ (List.mem_of_getElem? hX61)).2.2 _ (List.mem_of_getElem? hx142)
 have hd144 := drop_at hx142
 refine jT (dT h140) (sk (Wp.seq (bo (sr (fw (.pointer (some ⟨ab x59.xPairs.A, ao x59.xPairs.A + k128 * 2, none⟩)) (Yl.indexAddr (El82) rfl rfl ((H132.ro (hm1 _ (List.mem_of_getElem? hx60)).1).addr (i := k128) (by omega)) (by omega)) (fw (.agg (PairD.cells x141).toArray) (Yl.load rfl (Lds.agg (cs := (PairD.cells x141)) Tryz.isAgg86 Tryz.sizeOf86 ((H132.ro (hm1 _ (List.mem_of_getElem? hx60)).1).elem PairD.len hx142 (by decide)))) ?_))))))
 refine npw [.string ⟨List.toArray ([])⟩, .string ⟨List.toArray ([])⟩] 86 H132 ?_
 intro g145 w146 H147
 refine sto (PairD.cells x141) 0 H147 Tryz.sizeOf86 ?_
 intro w148 H149
 refine nt ?_
 have H151 := H149.drew
 refine Wp.drawnX [] (fun W => ∃ L', Own w D W ([blk g145 (PairD.cells x141) 86, row A114 r109.length c115 (List.flatMap eB r109) 5 1, blk g65 (ResultD.cells x59) 84] ++ L')) (by kernel_rfl) (by kernel_rfl) (NoP.block (NoP.then (NoP.then (NoP.block (NoP.block (NoP.then (NoP.then (NoP.block (NoP.then NoP.base))))))))) ⟨_, H151⟩ ?_
 revert H151
 generalize World.drew w148 = w150
 intro H151
 refine GX.take (v := .slice A125 l127.length c126) (rs := []) 0 rfl (by kernel_rfl) (fun _ _ => Yl.move rfl) (GX.take (v := .pointer (some ⟨g145, 0, none⟩)) (rs := []) 1 rfl (by kernel_rfl) (fun _ _ => yk) (GX.take (v := .string ⟨List.toArray x141.xKey⟩) (rs := []) 2 rfl (by kernel_rfl) (fun _ ⟨_, H9⟩ => Yl.load rfl (Lds.one Tryz.isAgg9 (Cls.of (H9.cls (i := 0) rfl) rfl))) (GX.take (v := .pointer (some ⟨g145, 1, none⟩)) (rs := []) 4 rfl (by kernel_rfl) (fun _ _ => yk) (GX.take (v := .string ⟨List.toArray x141.xValue⟩) (rs := []) 5 rfl (by kernel_rfl) (fun _ ⟨_, H9⟩ => Yl.load rfl (Lds.one Tryz.isAgg9 (Cls.of (H9.cls (i := 0) rfl) rfl))) ?_))))
 have H152 := H151.pk [3, 0, 1, 2]
 obtain ⟨r158, hr159⟩ : ∃ q, r18_Text l127 x141.xKey = q := ⟨_, rfl⟩
 obtain ⟨D153, HP154, ro155, bk156, rr157⟩ := Own.enter1 H152
 refine GX.do 3 rfl (by kernel_rfl) (Do.call Tryz.call67 rfl (r18_Text_ok _ _ A125 l127.length c126 l127 x141.xKey r158 HP154 rfl (by omega) (by first | omega | (simp only [List.length_cons, List.length_nil, List.length_append]; omega)) hr159) ?_)
 rintro _ w160 ⟨A163, c164, rfl, HQ161, hk165⟩
 have H162 := bk156 _ _ HQ161
 have hb166 := H162.rowC (i := 0) rfl
 replace hk165 : r158.length ≤ l127.length + x141.xKey.length + 10 := hk165
 have H167 := H162.pk [1, 2, 3, 0]
 refine ⟨.inr ⟨_, H167⟩, ?_⟩
 have H168 := H167.pk [3, 0, 1, 2]
 obtain ⟨r174, hr175⟩ : ∃ q, r18_Text r158 x141.xValue = q := ⟨_, rfl⟩
 obtain ⟨D169, HP170, ro171, bk172, rr173⟩ := Own.enter1 H168
 refine GX.do 6 rfl (by kernel_rfl) (Do.call Tryz.call67 rfl (r18_Text_ok _ _ A163 r158.length c164 r158 x141.xValue r174 HP170 rfl (by omega) (by first | omega | (simp only [List.length_cons, List.length_nil, List.length_append]; omega)) hr175) ?_)
 rintro _ w176 ⟨A179, c180, rfl, HQ177, hk181⟩
 have H178 := bk172 _ _ HQ177
 have hb182 := H178.rowC (i := 0) rfl
 replace hk181 : r174.length ≤ r158.length + x141.xValue.length + 10 := hk181
 have H183 := H178.pk [1, 2, 3, 0]
 refine ⟨.inr ⟨_, H183⟩, ?_⟩
 refine GX.take (v := .slice A179 r174.length c180) (rs := []) 7 rfl (by kernel_rfl) (fun _ _ => Yl.assign rfl) (GX.done (by kernel_rfl) (bN (Fin.then (Wp.region (fw (.int .i64 ((k128 + 1 : Nat) : Int)) (Yl.int (e := IntKind.i64.wrap (((k128 : Nat) : Int) + 1)) yk (by rw [IntWalk.i64_in _ (by omega)]; omega)) (Mz rfl (WL.nil ?_)))))))
 have H184 := H183.pk [1, 2, 3]
 exact Fin.round (A179, c180, r174, k128 + 1) ⟨rfl, rfl, rfl, rfl, rfl, rfl, rfl, rfl, rfl, rfl, rfl, rfl, rfl, rfl, rfl, rfl, rfl, rfl, rfl, rfl, rfl, rfl, rfl, rfl, rfl, rfl, rfl, trivial⟩ (dm136.2 ⟨H184, by omega, by omega, et (hq137) (et (congrArg (fun q => r18_Res_L1 q l127) hd144) (et (bnd_of hr159) (bnd_of hr175)))⟩) (by show x59.xPairs.ls.length - (k128 + 1) < x59.xPairs.ls.length - k128; omega)
 refine jF (dF h140) (Wp.exit (Fin.thenX ?_))
 have hL185 : r18_Res_L1 x59.xPairs.ls (r94 ++ r109) = l127 := et (hq137) (et (congrArg (fun q => r18_Res_L1 q l127) (drop_end (ls := x59.xPairs.ls) (i := k128) (by omega))) rfl)
 refine Fin.thenX (Fin.blockX (bN (Fin.then (Wp.region (fw (.int .i64 ((k46 + 1 : Nat) : Int)) (Yl.int (e := IntKind.i64.wrap (((k46 : Nat) : Int) + 1)) yk (by rw [IntWalk.i64_in _ (by omega)]; omega)) (Mz rfl (WL.nil ?_)))))))
 have H186 := H132.pk [2]
 exact Fin.round (A125, c126, l127, k46 + 1) ⟨rfl, rfl, rfl, rfl, rfl, trivial⟩ (dm54.2 ⟨H186, by omega, by omega, et (hq55) (et (congrArg (fun q => r18_Res_L0 q l45) hd64) (et (bnd_of hr79) (et (bnd_of hr95) (et (bnd_of hr110) (bnd_of hL185)))))⟩) (by show l1.length - (k46 + 1) < l1.length - k46; omega)
 refine jF (dF h58) (Wp.exit (Fin.thenX ?_))
 have hL187 : r18_Res_L0 l1 (l0 ++ r26) = l45 := et (hq55) (et (congrArg (fun q => r18_Res_L0 q l45) (drop_end (ls := l1) (i := k46) (by omega))) rfl)
 refine Fin.thenX (Fin.blockX (Fin.then (sr (Mz rfl (An rfl (rt (rs ?_)))))))
 have H188 := H50.pk [0]
 obtain rfl : _ = l45 := hr.symm.trans (et (bnd_of hr27) (bnd_of hL187))
 exact ⟨A43, c44, rfl, H188, (by first | omega | (simp only [List.length_cons, List.length_nil, List.length_append]; omega))⟩
def r18_Owners_L0 : List OwnerD → List UInt8 → (List UInt8)
  | [], l45 => l45
  | x59 :: q47, l45 => bnd (r18_Text l45 x59.xLo) fun yr108 => r18_Owners_L0 q47 (yr108 ++ [(u8I x59.xShard)])
def r18_Owners (l0 : List UInt8) (l1 : List OwnerD) : (List UInt8) :=
 bnd (r01_Num l1.length) fun yr26 => bnd (r18_Owners_L0 l1 (l0 ++ yr26)) fun sLrbL => sLrbL
set_option maxRecDepth 100000 in
set_option maxHeartbeats 1000000 in
theorem r18_Owners_ok (w : World) (D : Nat → Prop) (A0 : Option Addr) (n0 c0 : Nat) (l0 : List UInt8) (A1 : Option Addr) (n1 c1 : Nat) (l1 : List OwnerD) (r0 : List UInt8) (H : Own w D w [row A0 n0 c0 (List.flatMap eB l0) 5 1]) (hn0 : n0 = l0.length) (hl0 : l0.length * 1 ≤ 211106232532992) (hx1 : Ro w D fun w' => Rds w' 2 A1 n1 (List.flatMap OwnerD.cells l1)) (hn1 : n1 = l1.length) (hl1 : l1.length * 24 ≤ 211106232532992) (hh0 : l0.length ≤ 1000000000) (hh1 : (l1.length ≤ 6 ∧ ∀ x ∈ l1, x.xLo.length ≤ 12)) (hr : r18_Owners l0 l1 = r0) :
    Calls Tryz.prog 70 #[.slice A0 n0 c0, .slice A1 n1 c1] w (Ret fun v w' => ∃ (B0 : Option Addr) (b0 : Nat), v = .slice B0 r0.length b0 ∧ Own w D w' [row B0 r0.length b0 (List.flatMap eB r0) 5 1] ∧ (r0.length ≤ l0.length + 10 + 23 * l1.length)) := by
 subst hn0 hn1
 have hc0 := H.rowC (i := 0) rfl
 have hh1a := hh1.1
 refine Calls.body (args := [.slice A0 l0.length c0, .slice A1 l1.length c1]) Tryz.func70 rfl rfl rfl ?_
 show Wp _ _ _ [(0, .slice A0 l0.length c0), (1, .slice A1 l1.length c1)] _ _
 refine sr (Ar rfl (Mz rfl (Mz rfl (Kz (.int .i64 ((l1.length : Nat) : Int)) (fw (.int .u64 ((l1.length : Nat) : Int)) (Yl.int (e := IntKind.u64.wrap ((l1.length : Nat) : Int)) yk (IntWalk.u64_in _ (by omega))) ?_)))))
 obtain ⟨r26, hr27⟩ : ∃ q, r01_Num l1.length = q := ⟨_, rfl⟩
 obtain ⟨D21, HP22, ro23, bk24, rr25⟩ := Own.enter0 H
 refine cl Tryz.call63 (r01_Num_ok _ _ l1.length r26 HP22 (by omega) hr27) ?_
 rintro _ w28 ⟨A31, c32, rfl, HQ29, hk33, hk34⟩
 have H30 := bk24 _ _ HQ29
 have hb35 := H30.rowC (i := 0) rfl
 replace hk33 : RecN l1.length r26.length := hk33
 replace hk34 : 1 ≤ r26.length ∧ r26.length ≤ 10 := hk34
 have H36 := H30.pk [1, 0]
 refine WL.do rfl (Do.appendW (k := l0.length) (m := r26.length) (El31) H36 rfl rfl (src_of Tryz.underlying31 (H36.rds (i := 1) rfl) (flat_one eB_one r26)) rfl (by omega) (s := List.length (l0 ++ r26)) (by first | omega | (simp only [List.length_append, List.length_cons, List.length_nil] <;> omega)) (List.flatMap_append).symm ?_)
 intro A37 c38 w39 H40
 have hl41 : List.length (l0 ++ r26) = l0.length + r26.length := by simp only [List.length_append, List.length_cons, List.length_nil]
 refine An rfl (Wp.seq (Wp.seq ?_))
 have H42 := H40.pk [0]
 refine Wp.region (Mz rfl (Kz (.int .i64 ((l1.length : Nat) : Int)) (Mn rfl (bo ?_))))
 have H48 := H42.pk [0]
 obtain ⟨I52, hI53⟩ : ∃ q : ((Option Addr) × Nat × (List UInt8) × Nat) → World → Prop, q = fun (i : (Option Addr) × Nat × (List UInt8) × Nat) w' => Own w D w' [row i.1 i.2.2.1.length i.2.1 (List.flatMap eB i.2.2.1) 5 1] ∧ (i.2.2.2 ≤ l1.length ∧ ((i.2.2.1.length : Nat) : Int) ≤ ((l0.length : Nat) : Int) + 10 + 23 * ((i.2.2.2 : Nat) : Int) ∧ r18_Owners_L0 l1 (l0 ++ r26) = r18_Owners_L0 (List.drop i.2.2.2 l1) i.2.2.1) := ⟨_, rfl⟩
 have dm54 : ∀ {A43 : Option Addr} {c44 : Nat} {l45 : List UInt8} {k46 : Nat} {w' : World}, I52 (A43, c44, l45, k46) w' ↔ Own w D w' [row A43 l45.length c44 (List.flatMap eB l45) 5 1] ∧ k46 ≤ l1.length ∧ ((l45.length : Nat) : Int) ≤ ((l0.length : Nat) : Int) + 10 + 23 * ((k46 : Nat) : Int) ∧ r18_Owners_L0 l1 (l0 ++ r26) = r18_Owners_L0 (List.drop k46 l1) l45 := by intros; subst hI53; exact Iff.rfl
 refine Wp.loop (fun i : (Option Addr) × Nat × (List UInt8) × Nat => [(0, .slice i.1 i.2.2.1.length i.2.1), (15, .int .i64 ((i.2.2.2 : Nat) : Int)), (14, .int .i64 ((l1.length : Nat) : Int)), (13, .slice A1 l1.length c1), (4, .slice none 0 0)]) I52 (fun i => l1.length - i.2.2.2) (A37, c38, (l0 ++ r26), 0) ⟨rfl, rfl, rfl, rfl, rfl, trivial⟩ (dm54.2 ⟨H48, by omega, by omega, rfl⟩) ?_
 rintro ⟨A43, c44, l45, k46⟩ w49 hf51
 show Wp _ _ _ [(0, .slice A43 l45.length c44), (15, .int .i64 ((k46 : Nat) : Int)), (14, .int .i64 ((l1.length : Nat) : Int)), (13, .slice A1 l1.length c1), (4, .slice none 0 0)] _ _
 obtain ⟨H50, hi56, hi57, hq55⟩ := dm54.1 hf51
 refine sr (Kz (.bool (decide (((k46 : Nat) : Int) < ((l1.length : Nat) : Int)))) (nt (Wp.seq ?_)))
 by_cases h58 : ((k46 : Nat) : Int) < ((l1.length : Nat) : Int)
 obtain ⟨x59, hx60⟩ := rds_at (ls := l1) (i := k46) OwnerD.len (by decide) (H50.ro hx1) (by first | omega | (simp; done) | (simp; omega))
 have hz61 : x59.xLo.length ≤ 12 := hh1.2 _ (List.mem_of_getElem? hx60)
 have hd62 := drop_at hx60
 refine jT (dT h58) (sk (Wp.seq (bo (sr (fw (.pointer (some ⟨ab A1, ao A1 + k46 * 2, none⟩)) (Yl.indexAddr (El27) rfl rfl ((H50.ro hx1).addr (i := k46) (by omega)) (by omega)) (fw (.agg (OwnerD.cells x59).toArray) (Yl.load rfl (Lds.agg (cs := (OwnerD.cells x59)) Tryz.isAgg88 Tryz.sizeOf88 ((H50.ro hx1).elem OwnerD.len hx60 (by decide)))) ?_))))))
 refine npw [.string ⟨List.toArray ([])⟩, .int .i64 0] 88 H50 ?_
 intro g63 w64 H65
 refine sto (OwnerD.cells x59) 0 H65 Tryz.sizeOf88 ?_
 intro w66 H67
 refine nt ?_
 have H69 := H67.drew
 refine Wp.drawnX [] (fun W => ∃ L', Own w D W ([blk g63 (OwnerD.cells x59) 88] ++ L')) (by kernel_rfl) (by kernel_rfl) (NoP.block (NoP.then (NoP.then (NoP.block (NoP.then NoP.base))))) ⟨_, H69⟩ ?_
 revert H69
 generalize World.drew w66 = w68
 intro H69
 refine GX.take (v := .slice A43 l45.length c44) (rs := []) 0 rfl (by kernel_rfl) (fun _ _ => Yl.move rfl) (GX.take (v := .pointer (some ⟨g63, 0, none⟩)) (rs := []) 1 rfl (by kernel_rfl) (fun _ _ => yk) (GX.take (v := .string ⟨List.toArray x59.xLo⟩) (rs := []) 2 rfl (by kernel_rfl) (fun _ ⟨_, H9⟩ => Yl.load rfl (Lds.one Tryz.isAgg9 (Cls.of (H9.cls (i := 0) rfl) rfl))) (GX.take (v := .pointer (some ⟨g63, 1, none⟩)) (rs := []) 4 rfl (by kernel_rfl) (fun _ _ => yk) (GX.take (v := .int .i64 x59.xShard) (rs := []) 5 rfl (by kernel_rfl) (fun _ ⟨_, H9⟩ => Yl.load rfl (Lds.one Tryz.isAgg3 (Cls.of (H9.cls (i := 0) rfl) rfl))) (GX.take (v := .int .u8 (((u8I x59.xShard).toNat : Nat) : Int)) (rs := []) 6 rfl (by kernel_rfl) (fun _ _ => Yl.int (e := IntKind.u8.wrap x59.xShard) yk (u8I_wrap _)) ?_)))))
 refine GX.any2 3 7 (by kernel_rfl) ?_ ?_
 have H70 := H69.pk [1, 0]
 obtain ⟨r76, hr77⟩ : ∃ q, r18_Text l45 x59.xLo = q := ⟨_, rfl⟩
 obtain ⟨D71, HP72, ro73, bk74, rr75⟩ := Own.enter1 H70
 refine GY.do 3 rfl (by kernel_rfl) (Do.call Tryz.call67 rfl (r18_Text_ok _ _ A43 l45.length c44 l45 x59.xLo r76 HP72 rfl (by omega) (by first | omega | (simp only [List.length_cons, List.length_nil, List.length_append]; omega)) hr77) ?_)
 rintro _ w78 ⟨A81, c82, rfl, HQ79, hk83⟩
 have H80 := bk74 _ _ HQ79
 have hb84 := H80.rowC (i := 0) rfl
 replace hk83 : r76.length ≤ l45.length + x59.xLo.length + 10 := hk83
 have H85 := H80.pk [1, 0]
 refine ⟨.inr ⟨_, H85⟩, ?_⟩
 refine GX.do 7 rfl (by kernel_rfl) (Do.newRow (cs := [.int .u8 (((u8I x59.xShard).toNat : Nat) : Int)]) (t := 5) (sz := 1) (m := 1) H85 rfl rfl (fun _ => by kernel_rfl) rfl (by decide) ?_)
 intro A86 w87 H88
 replace H88 := Own.reh (y := row A86 1 1 (List.flatMap eB ([(u8I x59.xShard)])) 5 1) rfl H88
 have H89 := H88.pk [1, 0, 2]
 refine ⟨.inr ⟨_, H89⟩, ?_⟩
 have H90 := H89.pk [2, 0, 1]
 refine GX.do 8 rfl (by kernel_rfl) (Do.appendW (k := r76.length) (m := 1) (El31) H90 rfl rfl (src_of Tryz.underlying31 (H90.rds (i := 2) rfl) (flat_one eB_one ([(u8I x59.xShard)]))) rfl (by omega) (s := List.length (r76 ++ [(u8I x59.xShard)])) (by first | omega | (simp only [List.length_append, List.length_cons, List.length_nil] <;> omega)) (List.flatMap_append).symm ?_)
 intro A91 c92 w93 H94
 have hl95 : List.length (r76 ++ [(u8I x59.xShard)]) = r76.length + 1 := by simp only [List.length_append, List.length_cons, List.length_nil]
 have H96 := H94.pk [1, 0, 2]
 refine ⟨.inr ⟨_, H96⟩, ?_⟩
 refine GX.take (v := .slice A91 (List.length (r76 ++ [(u8I x59.xShard)])) c92) (rs := []) 9 rfl (by kernel_rfl) (fun _ _ => Yl.assign rfl) (GX.done (by kernel_rfl) (bN (Fin.then (Wp.region (fw (.int .i64 ((k46 + 1 : Nat) : Int)) (Yl.int (e := IntKind.i64.wrap (((k46 : Nat) : Int) + 1)) yk (by rw [IntWalk.i64_in _ (by omega)]; omega)) (Mz rfl (WL.nil ?_)))))))
 have H97 := H96.pk [1]
 exact Fin.round (A91, c92, (r76 ++ [(u8I x59.xShard)]), k46 + 1) ⟨rfl, rfl, rfl, rfl, rfl, trivial⟩ (dm54.2 ⟨H97, by omega, by omega, et (hq55) (et (congrArg (fun q => r18_Owners_L0 q l45) hd62) (bnd_of hr77))⟩) (by show l1.length - (k46 + 1) < l1.length - k46; omega)
 refine GY.do 7 rfl (by kernel_rfl) (Do.newRow (cs := [.int .u8 (((u8I x59.xShard).toNat : Nat) : Int)]) (t := 5) (sz := 1) (m := 1) H69 rfl rfl (fun _ => by kernel_rfl) rfl (by decide) ?_)
 intro A98 w99 H100
 replace H100 := Own.reh (y := row A98 1 1 (List.flatMap eB ([(u8I x59.xShard)])) 5 1) rfl H100
 have H101 := H100.pk [1, 0, 2]
 refine ⟨.inr ⟨_, H101⟩, ?_⟩
 have H102 := H101.pk [2, 0, 1]
 obtain ⟨r108, hr109⟩ : ∃ q, r18_Text l45 x59.xLo = q := ⟨_, rfl⟩
 obtain ⟨D103, HP104, ro105, bk106, rr107⟩ := Own.enter1 H102
 refine GX.do 3 rfl (by kernel_rfl) (Do.call Tryz.call67 rfl (r18_Text_ok _ _ A43 l45.length c44 l45 x59.xLo r108 HP104 rfl (by omega) (by first | omega | (simp only [List.length_cons, List.length_nil, List.length_append]; omega)) hr109) ?_)
 rintro _ w110 ⟨A113, c114, rfl, HQ111, hk115⟩
 have H112 := bk106 _ _ HQ111
 have hb116 := H112.rowC (i := 0) rfl
 replace hk115 : r108.length ≤ l45.length + x59.xLo.length + 10 := hk115
 have H117 := H112.pk [1, 0, 2]
 refine ⟨.inr ⟨_, H117⟩, ?_⟩
 have H118 := H117.pk [1, 0, 2]
 refine GX.do 8 rfl (by kernel_rfl) (Do.appendW (k := r108.length) (m := 1) (El31) H118 rfl rfl (src_of Tryz.underlying31 (H118.rds (i := 2) rfl) (flat_one eB_one ([(u8I x59.xShard)]))) rfl (by omega) (s := List.length (r108 ++ [(u8I x59.xShard)])) (by first | omega | (simp only [List.length_append, List.length_cons, List.length_nil] <;> omega)) (List.flatMap_append).symm ?_)
 intro A119 c120 w121 H122
 have hl123 : List.length (r108 ++ [(u8I x59.xShard)]) = r108.length + 1 := by simp only [List.length_append, List.length_cons, List.length_nil]
 have H124 := H122.pk [1, 0, 2]
 refine ⟨.inr ⟨_, H124⟩, ?_⟩
 refine GX.take (v := .slice A119 (List.length (r108 ++ [(u8I x59.xShard)])) c120) (rs := []) 9 rfl (by kernel_rfl) (fun _ _ => Yl.assign rfl) (GX.done (by kernel_rfl) (bN (Fin.then (Wp.region (fw (.int .i64 ((k46 + 1 : Nat) : Int)) (Yl.int (e := IntKind.i64.wrap (((k46 : Nat) : Int) + 1)) yk (by rw [IntWalk.i64_in _ (by omega)]; omega)) (Mz rfl (WL.nil ?_)))))))
 have H125 := H124.pk [1]
 exact Fin.round (A119, c120, (r108 ++ [(u8I x59.xShard)]), k46 + 1) ⟨rfl, rfl, rfl, rfl, rfl, trivial⟩ (dm54.2 ⟨H125, by omega, by omega, et (hq55) (et (congrArg (fun q => r18_Owners_L0 q l45) hd62) (bnd_of hr109))⟩) (by show l1.length - (k46 + 1) < l1.length - k46; omega)
 refine jF (dF h58) (Wp.exit (Fin.thenX ?_))
 have hL126 : r18_Owners_L0 l1 (l0 ++ r26) = l45 := et (hq55) (et (congrArg (fun q => r18_Owners_L0 q l45) (drop_end (ls := l1) (i := k46) (by omega))) rfl)
 refine Fin.thenX (Fin.blockX (Fin.then (sr (Mz rfl (An rfl (rt (rs ?_)))))))
 have H127 := H50.pk [0]
 obtain rfl : _ = l45 := hr.symm.trans (et (bnd_of hr27) (bnd_of hL126))
 exact ⟨A43, c44, rfl, H127, (by first | omega | (simp only [List.length_cons, List.length_nil, List.length_append]; omega))⟩
end Go.Proofs.YtccjclalngabhaaGreat
