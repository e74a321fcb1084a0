/-
  PROVED HERE: what the law OwnerTurns tells is true.
  Conditions: none beyond the statements' own.
-/
import Derived.Test.YtcjjblkgbfaapaaNTurns
import Derived.Test.YtcjjblkgbfaapaaOwN
namespace Go.Proofs.Ytcjjblkgbfaapaa
set_option linter.unusedVariables false
set_option linter.unusedSimpArgs false
open Go.ChangeShapes
theorem turns_L (l0 : List OwnerD) (p1 : List UInt8) (p2 p3 : Int) (b : Bool) : ∀ n, w17_OwnerTurns_L0 l0 p1 p2 p3 b n = .inl ()
  | 0 => rfl
  | n + 1 => by
    rw [w17_OwnerTurns_L0]
    simp only [bnd_eq, split_eq, give_eq, same_refl, if_true, turns_L l0 p1 p2 p3 b n]
theorem T_OwnerTurns (l0 : List OwnerD) (p1 : List UInt8) (p2 : Int) (p3 : Int) : w17_OwnerTurns l0 p1 p2 p3 = true := by
  unfold w17_OwnerTurns
  rw [bnd_eq, turns_L, live_true]; rfl
end Go.Proofs.Ytcjjblkgbfaapaa
