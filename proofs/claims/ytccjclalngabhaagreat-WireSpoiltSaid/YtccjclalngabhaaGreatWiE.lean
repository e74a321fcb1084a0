/-
  A message is the same as itself; the chapter's examples.
  Conditions: none.
-/
import Derived.Test.YtccjclalngabhaaGreatWiT
import Derived.Test.YtccjclalngabhaaGreatWl
import Derived.Test.YtccjclalngabhaaGreatWiK
import Derived.Test.YtccjclalngabhaaGreatWiD
import Derived.Test.YtccjclalngabhaaGreatWs
namespace Go.Proofs.YtccjclalngabhaaGreat
set_option linter.unusedVariables false
set_option linter.unusedSimpArgs false
def ZM : MsgT := MsgT.mk 0 0 0 0 0 0 0 0 0 0 0 0 0 0 0 false (RangeD.mk ([]) ([])) (Ll.mk ([])) (Ll.mk ([])) (Ll.mk ([]))
theorem n0 : nums ZM := by unfold nums ZM; decide
end Go.Proofs.YtccjclalngabhaaGreat
namespace Go.Proofs.YtccjclalngabhaaGreat
set_option linter.unusedVariables false
set_option linter.unusedSimpArgs false
set_option maxRecDepth 100000 in
theorem live_true : w18_live = true := by decide +kernel
theorem nums_of {w : World} {a : MsgD} (h : MsgD.Ok w a) : nums (MsgD.abs a) := by
  obtain ⟨_, _, _, _, _, _, n1, n2, n3, n4, n5, n6, n7, n8, n9, _⟩ := h
  exact ⟨n1, n2, n3, n4, n5, n6, n7, n8, n9⟩
end Go.Proofs.YtccjclalngabhaaGreat
