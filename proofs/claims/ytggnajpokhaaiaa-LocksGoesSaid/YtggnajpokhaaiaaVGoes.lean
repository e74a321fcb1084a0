/-
 locks: the law LocksGoes, of its arguments' values.
-/
import Derived.Test.YtggnajpokhaaiaaLkPGoes
namespace Go.Proofs.Ytggnajpokhaaiaa
open Go.RowKit
set_option linter.unusedVariables false
set_option linter.unusedSectionVars false
set_option linter.unusedSimpArgs false
theorem W_LocksGoes (w : World) (a0 : Sv OpD) (ha0 : SvOk w 6 64 OpD.cells (OpD.Ok w) a0) :
    Calls Try.prog 3 #[.slice a0.A a0.ls.length a0.c] w fun e w' => e = .returned (.bool true) ∧ Below w.heap.size w w' :=
 (w16_LocksGoes_ok w (fun _ : Nat => False) a0.A a0.ls.length a0.c a0.ls true (Own.start w) (Rds.ro ha0.2.2.1 (by decide)) rfl (by have := ha0.1; have := ha0.2.1; omega) (by have := ha0.1; have := ha0.2.1; omega) (T_LocksGoes a0.ls)).mono fun e w' ⟨v, he, hv, H⟩ => ⟨by rw [he, hv], H.below⟩
end Go.Proofs.Ytggnajpokhaaiaa
