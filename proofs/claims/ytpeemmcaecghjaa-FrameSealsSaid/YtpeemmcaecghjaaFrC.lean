/-
  The walk of the law FrameBack.
-/
import Derived.Test.YtpeemmcaecghjaaFrL
namespace Go.Proofs.Ytpeemmcaecghjaa
open Go.RowKit

theorem open_seal {xs : List UInt8} (h : xs.length ≤ 4096) : opE (sB xs) = 0 ∧ opB (sB xs) = xs ∧ sE xs = 0 := by
  have e : sB xs = sealL xs := by unfold sB; rw [if_neg (by omega)]
  rw [e]
  exact ⟨(op_seal h).1, (op_seal h).2, by unfold sE; rw [if_neg (by omega)]⟩
theorem open_none {xs : List UInt8} (h : 4096 < xs.length) : opE (sB xs) = 10 ∧ opB (sB xs) = [] ∧ sE xs = 2 := by
  have e : sB xs = [] := by unfold sB; rw [if_pos h]
  rw [e]
  exact ⟨by decide, opB_no (by decide), by unfold sE; rw [if_pos h]⟩

set_option maxHeartbeats 1000000 in
set_option maxRecDepth 100000 in
theorem W_FrameBack (A : Option Addr) (len cap : Nat) (xs : List UInt8) (w : World) : Byt w w.heap.size A len xs → len ≤ cap → cap * 1 ≤ 140737488351232 → ∀ (A2 : Option Addr) (len2 cap2 : Nat) (ys : List UInt8), Byt w w.heap.size A2 len2 ys → len2 ≤ cap2 → cap2 * 1 ≤ 140737488351232 →
    Calls Try.prog 4 #[.slice A len cap, .slice A2 len2 cap2] w fun e w' => e = .returned (.bool true) ∧ Below w.heap.size w w' := by
  intro hx0 hlc hcap0 A2 len2 cap2 ys hy0 hlc2 hcap2
  have hl := hx0.len
  have hx := Lib.hid hx0
  have hy := Lib.hid hy0
  clear hx0 hy0
  by_cases hbig : 100000 < len ∨ 100000 < len2
  · rcases Nat.lt_or_ge 100000 len with h | h
    · have t : (100000 : Int) < (len : Int) := by omega
      clear hl
      go_enter Try.func4, Try.ntmps4
      go_wp2_with fail
      refine (live_any w).mono ?_
      rintro e w1 ⟨rfl, hb1⟩
      go_wp2
      go_ret
      exact ⟨rfl, hb1⟩
    · have t : ¬ (100000 : Int) < (len : Int) := by omega
      have t2 : (100000 : Int) < (len2 : Int) := by omega
      clear hl
      go_enter Try.func4, Try.ntmps4
      go_wp2_with fail
      refine (live_any w).mono ?_
      rintro e w1 ⟨rfl, hb1⟩
      go_wp2
      go_ret
      exact ⟨rfl, hb1⟩
  · have t : ¬ (100000 : Int) < (len : Int) := by omega
    have t2 : ¬ (100000 : Int) < (len2 : Int) := by omega
    have hl1 : len ≤ 100000 := by omega
    have hl2 : len2 ≤ 100000 := by omega
    have HL := Lib.hid hl
    clear hbig hcap0 hcap2 hl
    go_enter Try.func4, Try.ntmps4
    go_wp2_with fail
    refine (live_any w).mono ?_
    rintro e w1 ⟨rfl, hb1⟩
    go_wp2_with fail
    refine (Seal_any _ cap len A xs w1 (hx.out.below hb1) hb1.size hlc).mono ?_
    rintro e w2 ⟨A3, m3, c3, er3, rfl, he3, ho3, hb2⟩
    have hb02 := hb1.trans (hb2.mono hb1.size)
    go_wp2_with fail
    refine (Open_any _ c3 m3 A3 _ w2 ho3.out.byt (Nat.le_refl _) ho3.out.2.1).mono ?_
    rintro e w3 ⟨A4, m4, c4, er4, rfl, he4, ho4, hb3⟩
    have hb03 := hb02.trans (hb3.mono hb02.size)
    have hs1 := fun W (hW : Below w3.heap.size w3 W) => own_str' (c := cap) ((hx.out.below hb03).below (hW.mono hb03.size))
    clear hb1 hb2 hb3 hb02 ho3
    have KO := Lib.hid (fun W (hW : Below w.heap.size w W) => Open_any _ cap2 len2 A2 ys W (hy.out.below hW) hW.size hlc2)
    have hys := Lib.hid (fun W (hW : Below w.heap.size w W) => own_str' (c := cap2) (hy.out.below hW))
    replace hs1 := Lib.hid hs1
    clear hx hy
    have HK : ∀ (K : Prop), (er3 = 0 ∧ er4 = 0 ∧ m4 = len ∧ (convert 22 9 (.slice A4 m4 c4)).run Try.prog w3 = .ok (.string (str xs)) w3 ∧ len ≤ 4096 → K) → (er3 = 2 ∧ er4 = 10 ∧ 4096 < len → K) → K := fun K k1 k2 => by
      rcases Nat.lt_or_ge 4096 len with h | h
      · obtain ⟨a, b, c⟩ := open_none (xs := xs) (by rw [HL.out]; exact h)
        exact k2 ⟨by rw [he3.out, c]; rfl, by rw [he4.out, a]; rfl, h⟩
      · obtain ⟨a, b, c⟩ := open_seal (xs := xs) (by rw [HL.out]; exact h)
        rw [b] at ho4
        exact k1 ⟨by rw [he3.out, c]; rfl, by rw [he4.out, a]; rfl, by rw [← ho4.out.len, HL.out], own_str' ho4.out.byt, h⟩
    have hs2 := hs1.out w3 (Below.refl _ _)
    clear hs1 he3 he4 ho4
    refine HK _ ?_ ?_
    all_goals first
      | (rintro ⟨rfl, rfl, rfl, hcv, h⟩
         clear HK HL
         generalize str xs = z at hcv hs2
         have tz : (z.toList != z.toList) = false := by simp
         go_wp2_with fail
         clear hcv hs2 tz)
      | (rintro ⟨rfl, rfl, h⟩
         have t3 : ¬ (len : Int) ≤ 4096 := by omega
         clear HK HL
         go_wp2_with fail
         clear hs2 t3)
    all_goals
      refine (KO.out w3 hb03).mono ?_
      rintro e w4 ⟨A5, m5, c5, er5, rfl, he5, ho5, hb4⟩
      have hb04 := hb03.trans (hb4.mono hb03.size)
      clear KO hb4
      by_cases h5 : opE ys = 0
      · obtain ⟨_, _, q1, q2⟩ := op_ok h5
        rw [h5] at he5
        obtain rfl : er5 = 0 := by rw [he5.out]; rfl
        have e1 : sB (opB ys) = ys := by unfold sB; rw [if_neg (by omega)]; exact q2
        have e2 : sE (opB ys) = 0 := by unfold sE; rw [if_neg (by omega)]
        clear q1 q2 h5
        have e1 := Lib.hid e1
        have e2 := Lib.hid e2
        go_wp2_with fail
        refine (Seal_any _ c5 m5 A5 _ w4 ho5.out.byt (Nat.le_refl _) ho5.out.2.1).mono ?_
        rintro e w5 ⟨A6, m6, c6, er6, rfl, he6, ho6, hb5⟩
        have hb05 := hb04.trans (hb5.mono hb04.size)
        rw [e1.out] at ho6
        rw [e2.out] at he6
        obtain rfl : er6 = 0 := by rw [he6.out]; rfl
        have v1 := own_str' ho6.out.byt (c := c6)
        have v2 := hys.out w5 hb05
        clear hys ho6 he6 he5 ho5 e1 e2 hb5 hb04 hb03
        generalize str ys = z at v1 v2
        have tz : (z.toList == z.toList) = true := by simp
        go_wp2
        go_ret
        exact ⟨by simp, hb05⟩
      · have hn := opB_no h5
        rw [hn] at ho5
        obtain rfl : m5 = 0 := by rw [← ho5.out.len]; rfl
        have t5 : (er5 != 0) = true := by have := he5.out; subst this; simp; omega
        clear ho5 he5 hn h5 hys
        go_wp2
        go_ret
        exact ⟨rfl, hb04⟩
end Go.Proofs.Ytpeemmcaecghjaa
