/-
  What was seen of a request goes on; operations of which none touch what others touch may be turned.
  Conditions: none.
-/
import Derived.Test.YtjcdgofegkngpaaJuN
import Derived.Test.YtjcdgofegkngpaaJuA
namespace Go.Proofs.Ytjcdgofegkngpaa
set_option linter.unusedVariables false
set_option linter.unusedSimpArgs false
open Go.RowKit
theorem Kept.all : ∀ l : List SeenT, Kept (fun _ => False) l l
  | [] => .nil
  | x :: l => .keep (fun h => h) (Kept.all l)
def apart (a b : OpD) : Prop := ∀ k, kok k → tch a k → ¬ tch b k
end Go.Proofs.Ytjcdgofegkngpaa
