/-
  What the bulk of an argument says of its parts.
  Conditions: none beyond each law's own.
-/
import Derived.Test.YtcjjblkgbfaapaaKh
namespace Go.Proofs.Ytcjjblkgbfaapaa
set_option linter.unusedVariables false
set_option linter.unusedSimpArgs false
section
variable {β : Type} [Bk β] {s : Sv β} {x : β}
end
end Go.Proofs.Ytcjjblkgbfaapaa
