/-
  PROVED HERE: what the law OpApplies tells is true.
  Conditions: none beyond the statements' own.
-/
import Derived.Test.YtjaoojlgeghpmaaOApplies
import Derived.Test.YtjaoojlgeghpmaaOpV
import Derived.Test.YtjaoojlgeghpmaaOpL
namespace Go.Proofs.Ytjaoojlgeghpmaa
set_option linter.unusedVariables false
set_option linter.unusedSimpArgs false
open Go.ChangeShapes
theorem apl_L (l0 : List PairD) (l1 : List OpD) (b : Bool) : ∀ n, w04_OpApplies_L0 l0 l1 b n = .inl ()
  | 0 => rfl
  | n + 1 => by
    rw [w04_OpApplies_L0]
    simp only [bnd_eq, apply_eq, sm_refl, sr_refl, if_true, apl_L l0 l1 b n]
theorem T_OpApplies (l0 : List PairD) (l1 : List OpD) : w04_OpApplies l0 l1 = true := by
  unfold w04_OpApplies
  simp only [bnd_eq, apl_L, live_true, sm_refl, if_true]
  exact lp_l rfl
end Go.Proofs.Ytjaoojlgeghpmaa
