/-
  PROVED HERE: what the law WireBodies tells is true.
  Conditions: none.
-/
import Derived.Test.YtccjclalngabhaaGreatWBodies
import Derived.Test.YtccjclalngabhaaGreatWiE
namespace Go.Proofs.YtccjclalngabhaaGreat
theorem T_WireBodies (l : List UInt8) : w18_WireBodies l = true := by
  unfold w18_WireBodies
  rw [live_true]
  simp only [bnd_eq, dec_eq, if_true, same_r]
  split
  · rfl
  · split <;> rfl
end Go.Proofs.YtccjclalngabhaaGreat
