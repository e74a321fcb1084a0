/-
 disk: the law DiskSafe, of its arguments' values.
-/
import Derived.Test.YtmhhmhaigmjekaaDiPSafe
namespace Go.Proofs.Ytmhhmhaigmjekaa
open Go.RowKit
set_option linter.unusedVariables false
set_option linter.unusedSectionVars false
set_option linter.unusedSimpArgs false

theorem W_DiskSafe (w : World) (a0 : Sv OpD) (ha0 : SvOk w 6 56 OpD.cells (OpD.Ok w) a0) (a1 : Sv OpD) (ha1 : SvOk w 6 56 OpD.cells (OpD.Ok w) a1) (a2 : List UInt8) (ha2 : a2.length ≤ 140737488351232) :
    Calls Try.prog 4 #[.slice a0.A a0.ls.length a0.c, .slice a1.A a1.ls.length a1.c, .string ⟨List.toArray a2⟩] w fun e w' => e = .returned (.bool true) ∧ Below w.heap.size w w' :=
 (w06_DiskSafe_ok w (fun _ : Nat => False) a0.A a0.ls.length a0.c a0.ls a1.A a1.ls.length a1.c a1.ls a2 true (Own.start w) (Rds.ro ha0.2.2.1 (by decide)) rfl (by have := ha0.1; have := ha0.2.1; omega) (Rds.ro ha1.2.2.1 (by decide)) rfl (by have := ha1.1; have := ha1.2.1; omega) (by have := ha0.1; have := ha0.2.1; omega) (by have := ha1.1; have := ha1.2.1; omega) ha2 (T_DiskSafe a0.ls a1.ls a2)).mono fun e w' ⟨v, he, hv, H⟩ => ⟨by rw [he, hv], H.below⟩
end Go.Proofs.Ytmhhmhaigmjekaa
