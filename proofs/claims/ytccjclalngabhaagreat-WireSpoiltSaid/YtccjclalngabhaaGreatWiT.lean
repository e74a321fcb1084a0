/-
  A message's fields read: the program's and the document's.
  Conditions: none.
-/
import Derived.Test.YtccjclalngabhaaGreatWiR
import Derived.Test.YtccjclalngabhaaGreatWiK
namespace Go.Proofs.YtccjclalngabhaaGreat
set_option linter.unusedVariables false
set_option linter.unusedSimpArgs false
def nums (m : MsgT) : Prop := m.xReq ≤ 18446744073709551615 ∧ m.xBoot ≤ 18446744073709551615 ∧ m.xTxn ≤ 18446744073709551615 ∧ m.xLow ≤ 18446744073709551615 ∧ m.xVer ≤ 18446744073709551615 ∧ m.xEpoch ≤ 18446744073709551615 ∧ m.xMove ≤ 18446744073709551615 ∧ m.xAttempt ≤ 18446744073709551615 ∧ m.xN ≤ 18446744073709551615
end Go.Proofs.YtccjclalngabhaaGreat
