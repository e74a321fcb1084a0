/-
 locks: the law LocksEnd, of its arguments' values.
-/
import Derived.Test.YtggnajpokhaaiaaLkPEnd
namespace Go.Proofs.Ytggnajpokhaaiaa
open Go.RowKit
set_option linter.unusedVariables false
set_option linter.unusedSectionVars false
set_option linter.unusedSimpArgs false

theorem W_LocksEnd (w : World) (a0 : Sv OpD) (ha0 : SvOk w 6 64 OpD.cells (OpD.Ok w) a0) (a1 : Int) (ha1 : (-9223372036854775808) ≤ a1 ∧ a1 ≤ 9223372036854775807) :
    Calls Try.prog 5 #[.slice a0.A a0.ls.length a0.c, .int .i64 a1] w fun e w' => e = .returned (.bool true) ∧ Below w.heap.size w w' :=
 (w16_LocksEnd_ok w (fun _ : Nat => False) a0.A a0.ls.length a0.c a0.ls a1 true (Own.start w) (Rds.ro ha0.2.2.1 (by decide)) rfl (by have := ha0.1; have := ha0.2.1; omega) (by have := ha0.1; have := ha0.2.1; omega) ha1 (T_LocksEnd a0.ls a1)).mono fun e w' ⟨v, he, hv, H⟩ => ⟨by rw [he, hv], H.below⟩
end Go.Proofs.Ytggnajpokhaaiaa
