/-
  PROVED HERE: what the law WireBodies tells is true.
  Conditions: none.
-/
import Derived.Test.YtccjclalngabhaaGreatWBodies
import Derived.Test.YtccjclalngabhaaGreatWiE
namespace Go.Proofs.YtccjclalngabhaaGreat
theorem rY (l:List UInt8):lY l=true:=by
  unfold lY
  rw [uC]
  simp only [aQ,wH,if_true,wM]
  split
  · rfl
  · split <;> rfl
end Go.Proofs.YtccjclalngabhaaGreat
