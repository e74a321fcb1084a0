/-
  op: the law OpChecks, of its arguments' values.
-/
import Derived.Test.YtcognlpfeoabgaaOpPChecks
namespace Go.Proofs.Ytcognlpfeoabgaa
open Go.RowKit
set_option linter.unusedVariables false
set_option linter.unusedSectionVars false

theorem W_OpChecks (w : World) (a0 : OpD) (ha0 : OpD.Ok w a0) (a1 : Sv OpD) (ha1 : SvOk w 6 80 OpD.cells (OpD.Ok w) a1) (a2 : Sv PairD) (ha2 : SvOk w 2 32 PairD.cells (PairD.Ok w) a2) :
    Calls Try.prog 3 #[.agg #[.int .i64 a0.xKind, .string ⟨List.toArray a0.xKey⟩, .string ⟨List.toArray a0.xValue⟩, .string ⟨List.toArray a0.xLo⟩, .string ⟨List.toArray a0.xHi⟩, .int .i64 a0.xMost], .slice a1.A (List.length a1.ls) a1.c, .slice a2.A (List.length a2.ls) a2.c] w fun e w' => e = .returned (.bool true) ∧ Below w.heap.size w w' :=
  (w04_OpChecks_ok w (fun _ : Nat => False) a0 a1.A (List.length a1.ls) a1.c a1.ls a2.A (List.length a2.ls) a2.c a2.ls true (Own.start w) (Rds.ro ha1.2.2.1 (by decide)) rfl (by have := ha1.1; have := ha1.2.1; omega) (Rds.ro ha2.2.2.1 (by decide)) rfl (by have := ha2.1; have := ha2.2.1; omega) (by have := ha1.1; have := ha1.2.1; omega) (by have := ha2.1; have := ha2.2.1; omega) (T_OpChecks a0 a1.ls a2.ls)).mono fun e w' ⟨v, he, hv, H⟩ => ⟨by rw [he, hv], H.below⟩
end Go.Proofs.Ytcognlpfeoabgaa
