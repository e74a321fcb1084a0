/-
  Contracts of octet.Num.
-/
import Derived.Test.YtccjclalngabhaaGreatBase
namespace Go.Proofs.YtccjclalngabhaaGreat.Z
open Go.RowKit
def nlen (xs : List UInt8) : Nat :=
  match (xs.take 10).findIdx? (fun x => decide (x.toNat < 128)) with
  | some i => i + 1
  | none => 0
end Go.Proofs.YtccjclalngabhaaGreat.Z
namespace Go.Proofs.YtccjclalngabhaaGreat.Z
open Go.RowKit
def num (n : Nat) : List UInt8 := if n < 128 then [UInt8.ofNat n] else UInt8.ofNat (n % 128 + 128) :: num (n / 128)
  termination_by n
  decreasing_by omega
theorem num_lt {n : Nat} (h : n < 128) : num n = [UInt8.ofNat n] := by rw [num, if_pos h]
theorem num_ge {n : Nat} (h : ¬ n < 128) : num n = UInt8.ofNat (n % 128 + 128) :: num (n / 128) := by rw [num, if_neg h]
end Go.Proofs.YtccjclalngabhaaGreat.Z
