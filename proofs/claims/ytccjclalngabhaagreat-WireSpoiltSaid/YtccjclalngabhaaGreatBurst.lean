/-
  The mathematics of OctetBursts: the word of a list when one bit after the other is turned.
-/
import Derived.Test.YtccjclalngabhaaGreatCrc
namespace Go.Proofs.YtccjclalngabhaaGreat.Z
theorem add_xor {a k : Nat} (h : a < 2 ^ k) : a ^^^ 2 ^ k = 2 ^ k + a := by
  apply Nat.eq_of_testBit_eq
  intro j
  rw [Nat.testBit_xor, Nat.testBit_two_pow]
  rcases Nat.lt_trichotomy j k with hj | hj | hj
  · rw [Nat.testBit_two_pow_add_gt hj]
    simp [show k ≠ j from by omega]
  · subst hj
    rw [Nat.testBit_two_pow_add_eq]
    simp
  · have h1 : a < 2 ^ j := Nat.lt_of_lt_of_le h (Nat.pow_le_pow_right (by decide) (by omega))
    have h2 : 2 ^ k + a < 2 ^ j := by
      have : 2 ^ (k + 1) ≤ 2 ^ j := Nat.pow_le_pow_right (by decide) (by omega)
      rw [Nat.pow_succ] at this; omega
    rw [Nat.testBit_lt_two_pow h1, Nat.testBit_lt_two_pow h2]
    simp [show k ≠ j from by omega]
theorem burst_zero {b k : Nat} (h : b.testBit k = false) : b % 2 ^ (k + 1) = b % 2 ^ k := by
  rw [Nat.testBit_eq_decide_div_mod_eq] at h
  have h' : b / 2 ^ k % 2 = 0 := by have := of_decide_eq_false h; omega
  rw [Nat.mod_pow_succ, h']; simp
theorem burst_one {b k : Nat} (h : b.testBit k = true) : b % 2 ^ (k + 1) = (b % 2 ^ k) ^^^ 2 ^ k := by
  rw [Nat.testBit_eq_decide_div_mod_eq] at h
  have h' : b / 2 ^ k % 2 = 1 := of_decide_eq_true h
  rw [Nat.mod_pow_succ, h', add_xor (Nat.mod_lt _ (Nat.two_pow_pos k))]; simp [Nat.add_comm]
theorem burst_ne {b k : Nat} (h : b.testBit k = true) : b % 2 ^ (k + 1) ≠ 0 := by
  rw [burst_one h, add_xor (Nat.mod_lt _ (Nat.two_pow_pos k))]
  have := Nat.two_pow_pos k
  omega
theorem burst_step {xs ys : List UInt8} {at_ b k : Nat} (hw : word xs ^^^ word ys = 2 ^ at_ * (b % 2 ^ k)) (hb : b.testBit k = true) (hi : (at_ + k) / 8 < ys.length) {y : UInt8} (hy : y.toNat = ys[(at_ + k) / 8].toNat ^^^ 2 ^ ((at_ + k) % 8)) :
    word xs ^^^ word (ys.set ((at_ + k) / 8) y) = 2 ^ at_ * (b % 2 ^ (k + 1)) := by
  have e := word_set ys ((at_ + k) / 8) hi y
  rw [hy, ← Nat.xor_assoc, Nat.xor_self, Nat.zero_xor, ← Nat.pow_add] at e
  rw [show 8 * ((at_ + k) / 8) + (at_ + k) % 8 = at_ + k from by omega, Nat.pow_add] at e
  rw [burst_one hb, ← mul_xor, ← hw, ← e, Nat.xor_assoc, ← Nat.xor_assoc (word ys), Nat.xor_self, Nat.zero_xor]
theorem burst_end {xs ys : List UInt8} {at_ b k : Nat} (hl : xs.length = ys.length) (hw : word xs ^^^ word ys = 2 ^ at_ * (b % 2 ^ k)) (hk : k ≤ 32) (ha : at_ ≤ 8 * xs.length) : sum32 xs = sum32 ys ↔ b % 2 ^ k = 0 :=
  sum_differs hl hw (Nat.lt_of_lt_of_le (Nat.mod_lt _ (Nat.two_pow_pos k)) (Nat.pow_le_pow_right (by decide) hk)) ha
end Go.Proofs.YtccjclalngabhaaGreat.Z
