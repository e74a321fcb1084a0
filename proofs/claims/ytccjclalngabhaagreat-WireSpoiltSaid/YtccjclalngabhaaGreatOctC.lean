/-
  Contracts of octet.ReadNum.
-/
import Derived.Test.YtccjclalngabhaaGreatOctB
namespace Go.Proofs.YtccjclalngabhaaGreat.Z
open Go.RowKit
def unum : List UInt8 → Nat
  | [] => 0
  | x :: xs => x.toNat % 128 + 128 * unum xs
def lastOf (xs : List UInt8) : Nat := (xs[nlen xs - 1]?.getD 0).toNat
def rdNum (xs : List UInt8) : Nat × Nat × Nat :=
  if nlen xs = 0 then (0, 0, if 10 ≤ xs.length then 11 else 10)
  else if (1 < nlen xs ∧ lastOf xs = 0) ∨ (nlen xs = 10 ∧ 1 < lastOf xs) then (0, 0, 11)
  else (unum (xs.take (nlen xs)), nlen xs, 0)
end Go.Proofs.YtccjclalngabhaaGreat.Z
