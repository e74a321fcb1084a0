/-
  PROVED HERE: the chapter's examples of op hold.
  Conditions: none beyond the statements' own.
-/
import Derived.Test.YtcognlpfeoabgaaOw
import Derived.Test.YtcognlpfeoabgaaOpQ
namespace Go.Proofs.Ytcognlpfeoabgaa
set_option linter.unusedVariables false
open Go.ChangeShapes
set_option maxRecDepth 100000 in
theorem live_true : w04_live = true := by decide +kernel
end Go.Proofs.Ytcognlpfeoabgaa
