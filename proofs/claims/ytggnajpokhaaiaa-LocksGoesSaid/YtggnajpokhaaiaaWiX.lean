/-
  A shift by a number that varies.
  Conditions: none.
-/
import Derived.Test.YtggnajpokhaaiaaKy
namespace Go.Proofs.Ytggnajpokhaaiaa
open Go.RowKit
theorem tdivT {x : Int} {n : Nat} (h : 0 ≤ x) : Int.tdiv x (n : Int) = ((Int.toNat x / n : Nat) : Int) := by
  conv => lhs; rw [← Int.toNat_of_nonneg h]
  rfl
section
variable {P : Program} {n : Nat} {F : List (Nat × Value)} {w : World} {ty : TypeId} {x y : Operand}
end
end Go.Proofs.Ytggnajpokhaaiaa
