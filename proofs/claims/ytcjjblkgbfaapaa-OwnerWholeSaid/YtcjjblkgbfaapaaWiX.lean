/-
  A shift by a number that varies.
  Conditions: none.
-/
import Derived.Test.YtcjjblkgbfaapaaKy
namespace Go.Proofs.Ytcjjblkgbfaapaa
open Go.RowKit
section
variable {P : Program} {n : Nat} {F : List (Nat × Value)} {w : World} {ty : TypeId} {x y : Operand}
end
end Go.Proofs.Ytcjjblkgbfaapaa
