/-
  PROVED HERE: what the law OwnerAsks tells is true.
  Conditions: none beyond the statements' own.
-/
import Derived.Test.YtcjjblkgbfaapaaNAsks
import Derived.Test.YtcjjblkgbfaapaaOwM
namespace Go.Proofs.Ytcjjblkgbfaapaa
set_option linter.unusedVariables false
set_option linter.unusedSimpArgs false
open Go.ChangeShapes
theorem T_OwnerAsks (l0 : List OwnerD) (p1 : List UInt8) (p2 : Int) (p3 : Int) (p4 : RangeD) : w17_OwnerAsks l0 p1 p2 p3 p4 = true := by
  unfold w17_OwnerAsks
  simp only [bnd_eq, live_true, find_eq, rof_eq, chk_eq, owns_eq]
  simp only [↓reduceIte, and_self, decide_true]
end Go.Proofs.Ytcjjblkgbfaapaa
