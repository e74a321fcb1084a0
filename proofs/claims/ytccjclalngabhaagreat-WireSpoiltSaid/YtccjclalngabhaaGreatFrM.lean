/-
  The mathematics of frames: what Seal lays and what Open answers, there and back; a sum behind its bytes.
  Conditions: none.
-/
import Derived.Test.YtccjclalngabhaaGreatOctM
import Derived.Test.YtccjclalngabhaaGreatOctF
import Derived.Lib.SlBytesConst
import Derived.Deep.QuietTactic
import Derived.BigQuiet
namespace Go.Proofs.YtccjclalngabhaaGreat.Z
def w4 (x0 x1 x2 x3 : UInt8) : Nat := x0.toNat + 256 * x1.toNat + 65536 * x2.toNat + 16777216 * x3.toNat
theorem w4_lt (x0 x1 x2 x3 : UInt8) : w4 x0 x1 x2 x3 < 4294967296 := by
  have h0 := x0.toNat_lt; have h1 := x1.toNat_lt; have h2 := x2.toNat_lt; have h3 := x3.toNat_lt
  unfold w4; omega
def fix4 (s : Nat) : List UInt8 := [UInt8.ofNat (s % 256), UInt8.ofNat (s / 256 % 256), UInt8.ofNat (s / 65536 % 256), UInt8.ofNat (s / 16777216 % 256)]
theorem xor_add (x : UInt8) (y : Nat) : x.toNat ^^^ (256 * y) = 256 * y + x.toNat := by
  have h := x.toNat_lt
  have e1 : (x.toNat ^^^ (2 ^ 8 * y)) % 2 ^ 8 = x.toNat := by
    rw [Nat.xor_mod_two_pow, Nat.mul_mod_right, Nat.xor_zero, Nat.mod_eq_of_lt (by omega)]
  have e2 : (x.toNat ^^^ (2 ^ 8 * y)) / 2 ^ 8 = y := by
    rw [Nat.xor_div_two_pow, Nat.mul_div_cancel_left _ (by decide), Nat.div_eq_of_lt (by omega), Nat.zero_xor]
  have e3 : x.toNat ^^^ (256 * y) = x.toNat ^^^ (2 ^ 8 * y) := rfl
  omega
theorem word4 (x0 x1 x2 x3 : UInt8) : word [x0, x1, x2, x3] = w4 x0 x1 x2 x3 := by
  simp only [word, xor_add, w4]; omega
theorem crc_app (xs ys : List UInt8) (r : Nat) : crc r (xs ++ ys) = crc (crc r xs) ys := by unfold crc; rw [List.foldl_append]
def res : Nat := sts 32 4294967295 ^^^ 4294967295
theorem sum_res (xs : List UInt8) (x0 x1 x2 x3 : UInt8) : w4 x0 x1 x2 x3 = sum32 xs ↔ sum32 (xs ++ [x0, x1, x2, x3]) = res := by
  have hl : crc 4294967295 xs < 2 ^ 32 := crc_lt xs (by decide)
  have hw := w4_lt x0 x1 x2 x3
  have e : sum32 (xs ++ [x0, x1, x2, x3]) = sts 32 (crc 4294967295 xs ^^^ w4 x0 x1 x2 x3) ^^^ 4294967295 := by
    unfold sum32
    rw [crc_app, crc_word [x0, x1, x2, x3], word4]
    rfl
  rw [e]
  unfold sum32 res
  constructor
  · intro h
    rw [h, ← Nat.xor_assoc, Nat.xor_self, Nat.zero_xor]
  · intro h
    have h1 := x_cancel h
    have h2 : sts 32 ((crc 4294967295 xs ^^^ w4 x0 x1 x2 x3) ^^^ 4294967295) = 0 := by rw [sts_xor, h1, Nat.xor_self]
    have h3 := sts_zero 32 (Nat.xor_lt_two_pow (n := 32) (Nat.xor_lt_two_pow (n := 32) hl hw) (by decide)) h2
    have h4 := x_eq.1 h3
    generalize crc 4294967295 xs = c at h4 ⊢
    rw [← h4, ← Nat.xor_assoc, Nat.xor_self, Nat.zero_xor]
def opE (xs : List UInt8) : Nat :=
  if 4103 < xs.length then 2
  else if xs.length < 6 then 10
  else if ¬ sum32 xs = res then 50
  else if ¬ xs[0]? = some 83 then 11
  else if ¬ (rdNum ((xs.take (xs.length - 4)).drop 1)).2.2 = 0 then 11
  else if ¬ (rdNum ((xs.take (xs.length - 4)).drop 1)).1 = xs.length - 4 - (1 + (rdNum ((xs.take (xs.length - 4)).drop 1)).2.1) ∨ 4096 < (rdNum ((xs.take (xs.length - 4)).drop 1)).1 then 11
  else 0
def opB (xs : List UInt8) : List UInt8 := if opE xs = 0 then (xs.take (xs.length - 4)).drop (1 + (rdNum ((xs.take (xs.length - 4)).drop 1)).2.1) else []
theorem word_inj : ∀ (xs ys : List UInt8), xs.length = ys.length → word xs = word ys → xs = ys
  | [], [], _, _ => rfl
  | x :: xs, y :: ys, hl, h => by
    simp only [word, xor_add] at h
    have h1 := x.toNat_lt; have h2 := y.toNat_lt
    have e1 : x.toNat = y.toNat := by omega
    have e2 : word xs = word ys := by omega
    rw [UInt8.toNat_inj.1 e1, word_inj xs ys (by simpa using hl) e2]
end Go.Proofs.YtccjclalngabhaaGreat.Z
