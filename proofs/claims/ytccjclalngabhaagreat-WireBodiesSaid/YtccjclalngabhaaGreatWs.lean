/-
  wire: the document's answer, bytes.
-/
import Derived.Test.YtccjclalngabhaaGreatWr
namespace Go.Proofs.YtccjclalngabhaaGreat
open Go.RowKit
set_option linter.unusedVariables false
set_option linter.unusedSectionVars false
set_option linter.unusedSimpArgs false
def r01_Num (p0 : Nat) : (List UInt8) :=
  if p0 < 128 then [(UInt8.ofNat p0)] else bnd (r01_Num (p0 / 128)) fun yr34 => ([((UInt8.ofNat (p0 % 128)) + (128 : UInt8))] ++ yr34)
  termination_by p0
  decreasing_by all_goals omega
theorem r01_Num_eq (p0 : Nat) : r01_Num p0 = if ((p0 : Nat) : Int) < 128 then [(UInt8.ofNat p0)] else bnd (r01_Num (p0 / 128)) fun yr34 => ([((UInt8.ofNat (p0 % 128)) + (128 : UInt8))] ++ yr34) := by
  rw [r01_Num.eq_1 p0]
  by_cases h9 : p0 < 128
  · rw [ip h9, ip (by omega)]
  · rw [iN h9, iN (by omega)]
set_option maxRecDepth 100000 in
theorem r01_Num_ok (w : World) (D : Nat → Prop) (p0 : Nat) (r0 : List UInt8) (H : Own w D w []) (hh0 : p0 ≤ 18446744073709551615) (hr : r01_Num p0 = r0) :
    Calls Tryz.prog 63 #[.int .u64 ((p0 : Nat) : Int)] w (Ret fun v w' => ∃ (B0 : Option Addr) (b0 : Nat), v = .slice B0 r0.length b0 ∧ Own w D w' [row B0 r0.length b0 (List.flatMap eB r0) 5 1] ∧ (RecN p0 r0.length) ∧ (1 ≤ r0.length ∧ r0.length ≤ 10)) := by
  obtain ⟨pm, hpm⟩ : ∃ q, q = p0 := ⟨_, rfl⟩
  have self_ : ∀ (w : World) (D : Nat → Prop) (p0 : Nat) (r0 : List UInt8) (H : Own w D w []) (hh0 : p0 ≤ 18446744073709551615) (hh_ : p0 < pm) (hr : r01_Num p0 = r0), Calls Tryz.prog 63 #[.int .u64 ((p0 : Nat) : Int)] w (Ret fun v w' => ∃ (B0 : Option Addr) (b0 : Nat), v = .slice B0 r0.length b0 ∧ Own w D w' [row B0 r0.length b0 (List.flatMap eB r0) 5 1] ∧ (RecN p0 r0.length) ∧ (1 ≤ r0.length ∧ r0.length ≤ 10)) := fun w D p0 r0 H hh0 hh_ hr => r01_Num_ok w D p0 r0 H hh0 hr
  refine Calls.body (args := [.int .u64 ((p0 : Nat) : Int)]) Tryz.func63 rfl rfl rfl ?_
  show Wp _ _ _ [(0, .int .u64 ((p0 : Nat) : Int))] _ _
  refine sr (An rfl (Wp.seq (sr (Mz rfl (Kz (.bool (decide (((p0 : Nat) : Int) < 128))) (nt ?_))))))
  by_cases h21 : ((p0 : Nat) : Int) < 128
  refine jT (dT h21) (sr (Mz rfl (fw (.int .u8 (((UInt8.ofNat p0).toNat : Nat) : Int)) (Yl.int (e := IntKind.u8.wrap ((p0 : Nat) : Int)) yk (u8_wrap _)) ?_)))
  refine nrw [.int .u8 (((UInt8.ofNat p0).toNat : Nat) : Int)] 5 1 1 H ?_
  intro A22 w23 H24
  replace H24 : Own w D w23 [row A22 1 1 (List.flatMap eB ([(UInt8.ofNat p0)])) 5 1] := H24
  refine An rfl (Wp.ret (Fin.thenR (rs ?_)))
  have H25 := H24.pick [0] (by decide) rfl
  have e : r01_Num p0 = [(UInt8.ofNat p0)] := et (r01_Num_eq _) (ip h21)
  obtain rfl := e.symm.trans hr
  exact ⟨A22, 1, rfl, H25, (by first | exact RecN.one rfl | exact RecN.step (by omega) (by assumption) (by simp only [List.length_append, List.length_cons, List.length_nil]; omega)), (by first | (exact RecN.ten (RecN.one rfl) hh0) | (exact RecN.ten (RecN.step (by omega) (by assumption) (by simp only [List.length_append, List.length_cons, List.length_nil]; omega)) hh0))⟩
  refine jF (dF h21) (Wp.skip (Fin.then (sr (Mz rfl (fw (.int .u64 ((p0 % 128 : Nat) : Int)) (Yl.int (e := Int.tmod ((p0 : Nat) : Int) 128) yk (tmodN _ _)) (fw (.int .u8 (((UInt8.ofNat (p0 % 128)).toNat : Nat) : Int)) (Yl.int (e := IntKind.u8.wrap ((p0 % 128 : Nat) : Int)) yk (u8_wrap _)) (fw (.int .u8 ((((UInt8.ofNat (p0 % 128)) + (128 : UInt8)).toNat : Nat) : Int)) (Yl.int (e := IntKind.u8.wrap ((((UInt8.ofNat (p0 % 128)).toNat : Nat) : Int) + 128)) yk (u8_add (UInt8.ofNat (p0 % 128)) (128 : UInt8))) ?_)))))))
  refine nrw [.int .u8 ((((UInt8.ofNat (p0 % 128)) + (128 : UInt8)).toNat : Nat) : Int)] 5 1 1 H ?_
  intro A26 w27 H28
  replace H28 : Own w D w27 [row A26 1 1 (List.flatMap eB ([((UInt8.ofNat (p0 % 128)) + (128 : UInt8))])) 5 1] := H28
  refine Mz rfl (fw (.int .u64 ((p0 / 128 : Nat) : Int)) (Yl.int (e := IntKind.u64.wrap (Int.tdiv ((p0 : Nat) : Int) 128)) yk (by rw [show (128 : Int) = ((128 : Nat) : Int) from rfl, tdivN, IntWalk.u64_in _ (by omega)])) ?_)
  obtain ⟨r34, hr35⟩ : ∃ q, r01_Num (p0 / 128) = q := ⟨_, rfl⟩
  obtain ⟨D29, HP30, ro31, bk32, rr33⟩ := Own.enter0 H28
  refine cl Tryz.call63 (self_ _ _ (p0 / 128) r34 HP30 (by omega) (by omega) hr35) ?_
  rintro _ w36 ⟨A39, c40, rfl, HQ37, hk41, hk42⟩
  have H38 := bk32 _ _ HQ37
  have hb43 := H38.rowC (i := 0) rfl
  replace hk41 : RecN (p0 / 128) r34.length := hk41
  replace hk42 : 1 ≤ r34.length ∧ r34.length ≤ 10 := hk42
  have H44 := H38.pick [1, 0] (by decide) rfl
  refine WL.do rfl (Do.appendW (k := 1) (m := r34.length) (El31) H44 rfl rfl (src_of Tryz.underlying31 (H44.rds (i := 1) rfl) (flat_one eB_one r34)) rfl (by omega) (s := List.length ([((UInt8.ofNat (p0 % 128)) + (128 : UInt8))] ++ r34)) (by first | omega | (simp only [List.length_append, List.length_cons, List.length_nil] <;> omega)) (List.flatMap_append).symm ?_)
  intro A45 c46 w47 H48
  have hl49 : List.length ([((UInt8.ofNat (p0 % 128)) + (128 : UInt8))] ++ r34) = 1 + r34.length := by simp only [List.length_append, List.length_cons, List.length_nil]
  refine An rfl (Wp.ret (rs ?_))
  have H50 := H48.pick [0] (by decide) rfl
  have e : r01_Num p0 = ([((UInt8.ofNat (p0 % 128)) + (128 : UInt8))] ++ r34) := et (r01_Num_eq _) (et (iN h21) (bnd_of hr35))
  obtain rfl := e.symm.trans hr
  exact ⟨A45, c46, rfl, H50, (by first | exact RecN.one rfl | exact RecN.step (by omega) (by assumption) (by simp only [List.length_append, List.length_cons, List.length_nil]; omega)), (by first | (exact RecN.ten (RecN.one rfl) hh0) | (exact RecN.ten (RecN.step (by omega) (by assumption) (by simp only [List.length_append, List.length_cons, List.length_nil]; omega)) hh0))⟩
  termination_by p0
  decreasing_by all_goals omega
end Go.Proofs.YtccjclalngabhaaGreat
