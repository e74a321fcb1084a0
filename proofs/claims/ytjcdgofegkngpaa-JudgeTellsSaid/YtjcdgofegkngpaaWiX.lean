/-
  A shift by a number that varies.
  Conditions: none.
-/
import Derived.Test.YtjcdgofegkngpaaKy
namespace Go.Proofs.Ytjcdgofegkngpaa
open Go.RowKit
section
variable {P : Program} {n : Nat} {F : List (Nat × Value)} {w : World} {ty : TypeId} {x y : Operand}
end
end Go.Proofs.Ytjcdgofegkngpaa
