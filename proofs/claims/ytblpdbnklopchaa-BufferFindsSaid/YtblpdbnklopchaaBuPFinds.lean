/-
  Which entries are a buffer, and what any entries say of any key.
  Conditions: none beyond each law's own.
-/
import Derived.Test.YtblpdbnklopchaaBFinds
import Derived.Test.YtblpdbnklopchaaBuW
namespace Go.Proofs.Ytblpdbnklopchaa
set_option linter.unusedVariables false
set_option maxRecDepth 100000 in
theorem live_true : w12_live = true := by decide +kernel
theorem T_BufferFinds (l0 : List EntryD) (p1 : List UInt8) : w12_BufferFinds l0 p1 = true := by
  unfold w12_BufferFinds
  rw [live_true]
  simp only [bnd_eq, fi_eq, bc_eq, if_true, decide_true]
end Go.Proofs.Ytblpdbnklopchaa
