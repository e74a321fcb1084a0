/-
  PROVED HERE: the chapter's examples of op hold.
  Conditions: none beyond the statements' own.
-/
import Derived.Test.YtjaoojlgeghpmaaOw
import Derived.Test.YtjaoojlgeghpmaaOpQ
namespace Go.Proofs.Ytjaoojlgeghpmaa
set_option linter.unusedVariables false
set_option linter.unusedSimpArgs false
open Go.ChangeShapes
set_option maxRecDepth 100000 in
theorem live_true : w04_live = true := by decide +kernel
end Go.Proofs.Ytjaoojlgeghpmaa
