/-
  A number that is no less than nought as an index; rows that are made of noughts.
  Conditions: none beyond each law's own.
-/
import Derived.Test.YtcjjblkgbfaapaaKn
namespace Go.Proofs.Ytcjjblkgbfaapaa
set_option linter.unusedVariables false
set_option linter.unusedSimpArgs false
open Go.RowKit
theorem ev_nat {F : List (Nat × Value)} {x : Operand} {r : Int} {i : Nat} (h : ev F x = some (.int .i64 r)) (e : r = ((i : Nat) : Int)) : ev F x = some (.int .i64 ((i : Nat) : Int)) := by rw [h, e]
theorem and_mask (n k : Nat) (hk : k < 64) (m : Int) (hm : m = ((2 ^ k - 1 : Nat) : Int)) : IntKind.u64.wrap (((BitVec.ofInt 64 (n : Int) &&& BitVec.ofInt 64 m).toNat : Nat) : Int) = ((n % 2 ^ k : Nat) : Int) := by
  subst hm
  have hp : 2 ^ k ≤ 2 ^ 63 := Nat.pow_le_pow_right (by decide) (by omega)
  have h0 : 0 < 2 ^ k := Nat.two_pow_pos k
  have e : (BitVec.ofInt 64 (n : Int) &&& BitVec.ofInt 64 ((2 ^ k - 1 : Nat) : Int)).toNat = n % 2 ^ k := by
    rw [BitVec.toNat_and, BitVec.ofInt_natCast, BitVec.ofInt_natCast, BitVec.toNat_ofNat, BitVec.toNat_ofNat, Nat.mod_eq_of_lt (a := 2 ^ k - 1) (by omega), Nat.and_two_pow_sub_one_eq_mod,
      Nat.mod_mod_of_dvd n (Nat.pow_dvd_pow 2 (by omega))]
  rw [e]
  have := Nat.mod_lt n h0
  rw [IntWalk.u64_in _ (by omega)]
end Go.Proofs.Ytcjjblkgbfaapaa
