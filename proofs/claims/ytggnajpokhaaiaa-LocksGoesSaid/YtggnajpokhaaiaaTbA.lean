/-
  How many bits a number has: the library's math/bits.Len. Conditions: none beyond each law's own.
-/
import Derived.Test.YtggnajpokhaaiaaTa
import Derived.Shelf.Small.Bits
import Derived.Ground.NamesProg
import Derived.Shelf.SlGeneric
import Derived.Sort.LotA
import Derived.Sort.LotB
import Derived.Sort.LotC
import Derived.Sort.LotD3
import Derived.Sort.LotD5
import Derived.Sort.WalkA14
namespace Go.Proofs
open Go.RowKit Go.Maps Go.Sort Go.Shelf
def Try.bitsLenA_ren : Go.Shelf.Ren := ⟨fun | 125 => 66 | 128 => 81 | 129 => 82 | n => n, fun | 46 => 108 | 3 => 3 | 51 => 121 | 53 => 30 | 4 => 4 | 5 => 5 | 9 => 9 | n => n, fun | n => n⟩
theorem Try.bitsLenA : Go.Proofs.Lays.n125 Try.prog Try.bitsLenA_ren := {
  mixed := by kernel_rfl
  f125 := Try.func66.trans (congrArg some (by kernel_rfl))
  f128 := Try.func81.trans (congrArg some (by kernel_rfl))
  f129 := Try.func82.trans (congrArg some (by kernel_rfl))
  t3 := Try.underlying3
  a3 := Try.isAgg3
  z3 := Try.sizeOf3
  v3 := Try.zeroValue3
  t4 := Try.underlying4
  a4 := Try.isAgg4
  z4 := Try.sizeOf4
  v4 := Try.zeroValue4
  t5 := Try.underlying5
  a5 := Try.isAgg5
  z5 := Try.sizeOf5
  v5 := Try.zeroValue5
  t9 := Try.underlying9
  a9 := Try.isAgg9
  z9 := Try.sizeOf9
  v9 := Try.zeroValue9
  t46 := Try.underlying108
  a46 := Try.isAgg108
  z46 := Try.sizeOf108
  v46 := Try.zeroValue108
  t51 := Try.underlying121
  a51 := Try.isAgg121
  z51 := Try.sizeOf121
  v51 := Try.zeroValue121
  t53 := Try.underlying30
  a53 := Try.isAgg30
  z53 := Try.sizeOf30
  v53 := Try.zeroValue30 }
end Go.Proofs
namespace Go.Proofs.Ytggnajpokhaaiaa
set_option linter.unusedVariables false
set_option linter.unusedSimpArgs false
open Go.RowKit Go.Maps Go.Sort Go.Shelf
theorem bits_len (w : World) (D : Nat → Prop) (x : Nat) (H : Own w D w []) (hx : x ≤ 18446744073709551615) :
    Calls Try.prog 66 #[.int .u64 (x : Int)] w (Ret fun v w' => v = .int .i64 ((bitsLen x : Nat) : Int) ∧ Own w D w' []) := by
  refine (Any.bits_Len Try.bitsLenA (x : Int) w (by omega) (by omega)).mono ?_
  rintro e w' ⟨rfl, rfl⟩
  refine ⟨_, rfl, ?_, H⟩
  rw [Int.toNat_natCast, bitLen_eq x (by omega)]
theorem bShl64_eq' (a s : Nat) (hs : s ≤ 64) : bShl64 a s = a * 2 ^ s % 18446744073709551616 := by
  unfold bShl64
  rw [Nat.min_eq_left hs, IntKind.wrap_u64]
  have e : (a : Int) * 2 ^ s = ((a * 2 ^ s : Nat) : Int) := by rw [Int.natCast_mul, Int.natCast_pow]; rfl
  rw [e]; omega
theorem np_eq {n : Nat} (h0 : 1 ≤ n) (h1 : n ≤ 4611686018427387904) : bShl64 1 (bitsLen n) = 2 ^ bitsLen n ∧ n < 2 ^ bitsLen n ∧ 2 ^ bitsLen n ≤ 2 * n := by
  have a := lt_two_pow_bitsLen n
  have b := two_pow_bitsLen_le (n := n) h0
  have c : bitsLen n ≤ 64 := (bitsLen_le_iff n 64).2 (by omega)
  refine ⟨?_, a, b⟩
  rw [bShl64_eq' _ _ c, Nat.one_mul, Nat.mod_eq_of_lt (by omega)]
theorem bits_len_le {n : Nat} (h1 : n ≤ 4611686018427387904) : bitsLen n ≤ 63 := (bitsLen_le_iff n 63).2 (by omega)
theorem bAnd64_right (a : Nat) {m : Nat} (h : m ≤ 18446744073709551615) : bAnd64 a m ≤ m := by
  unfold bAnd64
  have e1 : BitVec.ofInt 64 ((a : Nat) : Int) = BitVec.ofNat 64 a := BitVec.ofInt_natCast ..
  have e2 : BitVec.ofInt 64 ((m : Nat) : Int) = BitVec.ofNat 64 m := BitVec.ofInt_natCast ..
  rw [e1, e2, BitVec.toNat_and, BitVec.toNat_ofNat, BitVec.toNat_ofNat, Nat.mod_eq_of_lt (show m < 2 ^ 64 by omega), IntKind.wrap_u64]
  have := Nat.and_le_right (n := a % 2 ^ 64) (m := m)
  omega
def ltN (x y : Nat) : Bool := decide (x < y)
def pdqT (l : List Nat) (p1 p2 p3 : Int) : List Nat := (Go.Sort.pdq ltN l.toArray (Int.toNat p1) (Int.toNat p2) (Int.toNat p3) true true).toList
end Go.Proofs.Ytggnajpokhaaiaa
