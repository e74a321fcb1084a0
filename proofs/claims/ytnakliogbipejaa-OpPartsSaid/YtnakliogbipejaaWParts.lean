/-
  op: the law OpParts, of its arguments' values.
-/
import Derived.Test.YtnakliogbipejaaOpPParts
namespace Go.Proofs.Ytnakliogbipejaa
open Go.RowKit
set_option linter.unusedVariables false
set_option linter.unusedSectionVars false
set_option linter.unusedSimpArgs false

theorem W_OpParts (w : World) (a0 : Sv PairD) (ha0 : SvOk w 2 32 PairD.cells (PairD.Ok w) a0) (a1 : Sv OpD) (ha1 : SvOk w 6 80 OpD.cells (OpD.Ok w) a1) (a2 : Int) (ha2 : (-9223372036854775808) ≤ a2 ∧ a2 ≤ 9223372036854775807) :
    Calls Try.prog 4 #[.slice a0.A (List.length a0.ls) a0.c, .slice a1.A (List.length a1.ls) a1.c, .int .i64 a2] w fun e w' => e = .returned (.bool true) ∧ Below w.heap.size w w' :=
  (w04_OpParts_ok w (fun _ : Nat => False) a0.A (List.length a0.ls) a0.c a0.ls a1.A (List.length a1.ls) a1.c a1.ls a2 true (Own.start w) (Rds.ro ha0.2.2.1 (by decide)) rfl (by have := ha0.1; have := ha0.2.1; omega) (Rds.ro ha1.2.2.1 (by decide)) rfl (by have := ha1.1; have := ha1.2.1; omega) ha1.1 (by have := ha0.1; have := ha0.2.1; omega) (by have := ha1.1; have := ha1.2.1; omega) ha2 (T_OpParts a0.ls a1.ls a2)).mono fun e w' ⟨v, he, hv, H⟩ => ⟨by rw [he, hv], H.below⟩
end Go.Proofs.Ytnakliogbipejaa
