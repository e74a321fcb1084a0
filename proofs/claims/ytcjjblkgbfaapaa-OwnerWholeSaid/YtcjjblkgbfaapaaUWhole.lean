/-
 owner: the law OwnerWhole, of its arguments' values.
-/
import Derived.Test.YtcjjblkgbfaapaaWhPWhole
namespace Go.Proofs.Ytcjjblkgbfaapaa
open Go.RowKit
set_option linter.unusedVariables false
set_option linter.unusedSectionVars false
set_option linter.unusedSimpArgs false
theorem W_OwnerWhole (w : World) (a0 : Sv OwnerD) (ha0 : SvOk w 2 24 OwnerD.cells (OwnerD.Ok w) a0) (a1 : Sv PairD) (ha1 : SvOk w 2 32 PairD.cells (PairD.Ok w) a1) (a2 : Sv OpD) (ha2 : SvOk w 6 80 OpD.cells (OpD.Ok w) a2) :
    Calls Try.prog 6 #[.slice a0.A a0.ls.length a0.c, .slice a1.A a1.ls.length a1.c, .slice a2.A a2.ls.length a2.c] w fun e w' => e = .returned (.bool true) ∧ Below w.heap.size w w' :=
 (w17_OwnerWhole_ok w (fun _ : Nat => False) a0.A a0.ls.length a0.c a0.ls a1.A a1.ls.length a1.c a1.ls a2.A a2.ls.length a2.c a2.ls true (Own.start w) (Rds.ro ha0.2.2.1 (by decide)) rfl (by have := ha0.1; have := ha0.2.1; omega) (Rds.ro ha1.2.2.1 (by decide)) rfl (by have := ha1.1; have := ha1.2.1; omega) (Rds.ro ha2.2.2.1 (by decide)) rfl (by have := ha2.1; have := ha2.2.1; omega) (by have := ha0.1; have := ha0.2.1; omega) (by have := ha1.1; have := ha1.2.1; omega) (by have := ha2.1; have := ha2.2.1; omega) (T_OwnerWhole a0.ls a1.ls a2.ls)).mono fun e w' ⟨v, he, hv, H⟩ => ⟨by rw [he, hv], H.below⟩
end Go.Proofs.Ytcjjblkgbfaapaa
