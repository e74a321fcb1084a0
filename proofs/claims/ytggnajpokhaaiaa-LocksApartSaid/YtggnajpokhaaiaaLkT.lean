/-
  The chapter's examples hold. Conditions: none beyond each law's own.
-/
import Derived.Test.YtggnajpokhaaiaaLkS
namespace Go.Proofs.Ytggnajpokhaaiaa
set_option linter.unusedVariables false
set_option maxRecDepth 100000 in
theorem live_true : w16_live = true := by decide +kernel
end Go.Proofs.Ytggnajpokhaaiaa
