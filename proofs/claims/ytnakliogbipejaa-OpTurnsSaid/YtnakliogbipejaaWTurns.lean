/-
  op: the law OpTurns, of its arguments' values.
-/
import Derived.Test.YtnakliogbipejaaOpPTurns
namespace Go.Proofs.Ytnakliogbipejaa
open Go.RowKit
set_option linter.unusedVariables false
set_option linter.unusedSectionVars false
set_option linter.unusedSimpArgs false

theorem W_OpTurns (w : World) (a0 : Sv PairD) (ha0 : SvOk w 2 32 PairD.cells (PairD.Ok w) a0) (a1 : OpD) (ha1 : OpD.Ok w a1) (a2 : OpD) (ha2 : OpD.Ok w a2) :
    Calls Try.prog 3 #[.slice a0.A (List.length a0.ls) a0.c, .agg #[.int .i64 a1.xKind, .string ⟨List.toArray a1.xKey⟩, .string ⟨List.toArray a1.xValue⟩, .string ⟨List.toArray a1.xLo⟩, .string ⟨List.toArray a1.xHi⟩, .int .i64 a1.xMost], .agg #[.int .i64 a2.xKind, .string ⟨List.toArray a2.xKey⟩, .string ⟨List.toArray a2.xValue⟩, .string ⟨List.toArray a2.xLo⟩, .string ⟨List.toArray a2.xHi⟩, .int .i64 a2.xMost]] w fun e w' => e = .returned (.bool true) ∧ Below w.heap.size w w' :=
  (w04_OpTurns_ok w (fun _ : Nat => False) a0.A (List.length a0.ls) a0.c a0.ls a1 a2 true (Own.start w) (Rds.ro ha0.2.2.1 (by decide)) rfl (by have := ha0.1; have := ha0.2.1; omega) (by have := ha0.1; have := ha0.2.1; omega) (T_OpTurns a0.ls a1 a2)).mono fun e w' ⟨v, he, hv, H⟩ => ⟨by rw [he, hv], H.below⟩
end Go.Proofs.Ytnakliogbipejaa
