/-
  Nodes that may be: their pivots rise; which kid has a key.
  Conditions: none beyond each law's own.
-/
import Derived.Test.YtfkkipmdnjfocaaGreatDw
namespace Go.Proofs.YtfkkipmdnjfocaaGreat
set_option linter.unusedVariables false
set_option linter.unusedSimpArgs false
open Go.ChangeShapes
set_option maxRecDepth 100000 in
theorem live_true : w13_live = true := by decide +kernel
@[reducible] def Key : Type := List UInt8
theorem k_nlt {a b : Key} : ¬ a < b ↔ b ≤ a := List.not_lt
theorem k_nle {a b : Key} : ¬ a ≤ b ↔ b < a := List.not_le
theorem bnd_eq {α β : Type} (x : α) (f : α → β) : bnd x f = f x := rfl
end Go.Proofs.YtfkkipmdnjfocaaGreat
