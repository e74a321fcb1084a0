/-
  Messages of bytes: the program's are the document's.
  Conditions: none.
-/
import Derived.Test.YtccjclalngabhaaGreatWiT
namespace Go.Proofs.YtccjclalngabhaaGreat
set_option linter.unusedVariables false
set_option linter.unusedSimpArgs false
def ZM : MsgT := MsgT.mk 0 0 0 0 0 0 0 0 0 0 0 0 0 0 0 false (RangeD.mk ([]) ([])) (Ll.mk ([])) (Ll.mk ([])) (Ll.mk ([]))
theorem n0 : nums ZM := by unfold nums ZM; decide
end Go.Proofs.YtccjclalngabhaaGreat
