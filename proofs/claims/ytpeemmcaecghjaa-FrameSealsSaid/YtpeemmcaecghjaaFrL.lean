/-
  Contract of the law's live.
-/
import Derived.Test.YtpeemmcaecghjaaFrB
namespace Go.Proofs.Ytpeemmcaecghjaa
open Go.RowKit

theorem seal0 : sealL [] = [83, 0] ++ fix4 (sum32 [83, 0]) := by
  unfold sealL headL
  rw [show ([] : List UInt8).length = 0 from rfl, num_lt (by omega)]
  rfl
theorem seal0_more : opE (sealL [] ++ [0]) = 50 := by rw [seal0]; decide +kernel

set_option maxHeartbeats 1000000 in
set_option maxRecDepth 100000 in
theorem live_any (w : World) : Calls Try.prog 7 #[] w fun e w' => e = .returned (.bool true) ∧ Below w.heap.size w w' := by
  go_enter Try.func7, Try.ntmps7
  go_wp2_with fail
  refine (Seal_any 0 0 0 none [] w (Byt.nil_ ..) (Nat.zero_le _) (Nat.le_refl _)).mono ?_
  rintro e w1 ⟨A1, m1, c1, er1, rfl, he1, ho1, hb1⟩
  have e1 : sE [] = 0 := by decide
  have e2 : sB [] = sealL [] := by unfold sB; rw [if_neg (by decide)]
  rw [e1] at he1
  rw [e2] at ho1
  obtain rfl : er1 = 0 := by rw [he1.out]; rfl
  obtain rfl : m1 = 6 := by rw [← ho1.out.len, seal0]; rfl
  clear e1 e2 he1
  go_wp2_with (at_builtin; refine wp_app rfl _ _ _ _ rfl elB rfl (World.ownsRow_nil w1 w1.heap.size _ 1) rfl (src_rd Try.underlying22 ho1.out.byt bv_one) ?c1 ?c2 ?c3 ?_)
  case c1 => unfold maxLen; omega
  case c2 => omega
  case c3 => exact Nat.le_refl _
  intro v w2 hown2 hb2
  have hown3 : w2.ownsRow w1.heap.size 5 1 v 6 ((sealL []).map bv) := by have := hown2; simpa using this
  clear hown2
  go_wp2_with (at_builtin; refine wp_app1 rfl _ _ _ rfl elB rfl hown3 rfl rfl ?c4 ?c5 ?c6 ?_)
  case c4 => unfold maxLen; omega
  case c5 => omega
  case c6 => exact hb2.size
  intro v' w3 hown4 hb3
  have hb13 := hb2.trans hb3
  have hc1 := ho1.out.2.1
  obtain ⟨A3, c3, rfl, hc3, _⟩ := own_form hown4
  have h3 : (sealL []).map bv ++ [Value.int .u8 0] = (sealL [] ++ [0]).map bv := by rw [List.map_append]; rfl
  rw [h3] at hown4
  have K := Open_any _ c3 7 A3 _ w3 (Byt.of_own hown4) (Nat.le_refl _) hc3
  replace ho1 := Lib.hid ho1.out.byt
  clear h3 hown4 hown3 hb3 hb2
  go_wp2_with fail
  refine K.mono ?_
  rintro e w4 ⟨A4, m4, c4, er4, rfl, he4, ho4, hb4⟩
  rw [seal0_more] at he4
  obtain rfl : er4 = 50 := by rw [he4.out]; rfl
  have hb14 := hb13.trans (hb4.mono hb13.size)
  clear K he4 ho4 hb4 hb13
  have hmk : ∀ w, (Instr.makeSlice 22 (.int .i64 5) (.int .i64 5)).run Try.prog w = .ok (.slice (some ⟨w.heap.size, 0, none⟩) 5 5) (w.alloc (.cells #[.int .u8 0, .int .u8 0, .int .u8 0, .int .u8 0, .int .u8 0] 5)) := fun _ => by kernel_rfl
  have hz : Byt (w4.alloc (.cells #[.int .u8 0, .int .u8 0, .int .u8 0, .int .u8 0, .int .u8 0] 5)) (w4.heap.size + 1) (some ⟨w4.heap.size, 0, none⟩) 5 [0, 0, 0, 0, 0] := lit_byt w4 5 [0, 0, 0, 0, 0]
  have K := Open_any _ 5 5 _ _ _ hz (by simp) (Nat.le_refl _)
  rw [show ([0, 0, 0, 0, 0] : List UInt8) = List.replicate 5 0 from rfl] at K
  have e5 : opE (List.replicate 5 0) = 10 := by decide +kernel
  have K := Lib.hid K
  clear hz
  go_wp2_with fail
  refine K.out.mono ?_
  rintro e w5 ⟨A5, m5, c5, er5, rfl, he5, ho5, hb5⟩
  rw [e5] at he5
  obtain rfl : er5 = 10 := by rw [he5.out]; rfl
  have hb15 := (hb14.alloc hb14.size _).trans (hb5.mono (by have := hb14.size; simp; omega))
  clear K he5 ho5 hb5 hmk e5 hb14
  have hy5 := ho1.out.below hb15
  have K := Open_any _ c1 6 A1 _ w5 hy5 hb15.size hc1
  obtain ⟨p1, p2⟩ := op_seal (xs := []) (by decide)
  clear hy5
  go_wp2_with fail
  refine K.mono ?_
  rintro e w6 ⟨A6, m6, c6, er6, rfl, he6, ho6, hb6⟩
  rw [p1] at he6
  rw [p2] at ho6
  obtain rfl : er6 = 0 := by rw [he6.out]; rfl
  obtain rfl : m6 = 0 := by rw [← ho6.out.len]; rfl
  have hb16 := hb15.trans (hb6.mono hb15.size)
  have hy6 := ho1.out.below hb16
  obtain ⟨b, off, x, rfl, _, hx, hx0⟩ := hy6.at_ (k := 0) (by omega)
  obtain ⟨b', off', y, hA, _, hy, hy1⟩ := hy6.at_ (k := 1) (by omega)
  rw [seal0] at hx hy
  cases hA
  cases hx
  cases hy
  have hb06 := Lib.hid (hb1.trans (hb16.mono hb1.size))
  rw [Nat.add_zero] at hx0
  have hx0 : w6.cell? ⟨b, off, none⟩ = some (.int .u8 83) := hx0
  have hy1 : w6.cell? ⟨b, off + 1, none⟩ = some (.int .u8 0) := hy1
  clear K p1 p2 he6 ho6 hb6 hb15 hb16 hy6 ho1 hb1
  go_wp2
  go_ret
  exact ⟨rfl, hb06.out⟩
end Go.Proofs.Ytpeemmcaecghjaa
