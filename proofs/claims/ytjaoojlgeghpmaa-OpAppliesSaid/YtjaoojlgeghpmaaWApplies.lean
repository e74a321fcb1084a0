/-
  op: the law OpApplies, of its arguments' values.
-/
import Derived.Test.YtjaoojlgeghpmaaOpPApplies
namespace Go.Proofs.Ytjaoojlgeghpmaa
open Go.RowKit
set_option linter.unusedVariables false
set_option linter.unusedSectionVars false
set_option linter.unusedSimpArgs false

theorem W_OpApplies (w : World) (a0 : Sv PairD) (ha0 : SvOk w 2 32 PairD.cells (PairD.Ok w) a0) (a1 : Sv OpD) (ha1 : SvOk w 6 80 OpD.cells (OpD.Ok w) a1) :
    Calls Try.prog 3 #[.slice a0.A (List.length a0.ls) a0.c, .slice a1.A (List.length a1.ls) a1.c] w fun e w' => e = .returned (.bool true) ∧ Below w.heap.size w w' :=
  (w04_OpApplies_ok w (fun _ : Nat => False) a0.A (List.length a0.ls) a0.c a0.ls a1.A (List.length a1.ls) a1.c a1.ls true (Own.start w) (Rds.ro ha0.2.2.1 (by decide)) rfl (by have := ha0.1; have := ha0.2.1; omega) (Rds.ro ha1.2.2.1 (by decide)) rfl (by have := ha1.1; have := ha1.2.1; omega) (by have := ha0.1; have := ha0.2.1; omega) (by have := ha1.1; have := ha1.2.1; omega) (T_OpApplies a0.ls a1.ls)).mono fun e w' ⟨v, he, hv, H⟩ => ⟨by rw [he, hv], H.below⟩
end Go.Proofs.Ytjaoojlgeghpmaa
