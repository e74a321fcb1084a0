/-
  owner: the law OwnerMoved, of its arguments' values.
-/
import Derived.Test.YtcjjblkgbfaapaaOwPMoved
namespace Go.Proofs.Ytcjjblkgbfaapaa
open Go.RowKit
set_option linter.unusedVariables false
set_option linter.unusedSectionVars false
set_option linter.unusedSimpArgs false

theorem W_OwnerMoved (w : World) (a0 : Sv OwnerD) (ha0 : SvOk w 2 24 OwnerD.cells (OwnerD.Ok w) a0) (a1 : List UInt8) (ha1 : List.length a1 ≤ 140737488351232) (a2 : Int) (ha2 : (-9223372036854775808) ≤ a2 ∧ a2 ≤ 9223372036854775807) (a3 : List UInt8) (ha3 : List.length a3 ≤ 140737488351232) :
    Calls Try.prog 8 #[.slice a0.A (List.length a0.ls) a0.c, .string ⟨List.toArray a1⟩, .int .i64 a2, .string ⟨List.toArray a3⟩] w fun e w' => e = .returned (.bool true) ∧ Below w.heap.size w w' :=
  (w17_OwnerMoved_ok w (fun _ : Nat => False) a0.A (List.length a0.ls) a0.c a0.ls a1 a2 a3 true (Own.start w) (Rds.ro ha0.2.2.1 (by decide)) rfl (by have := ha0.1; have := ha0.2.1; omega) (by have := ha0.1; have := ha0.2.1; omega) ha1 ha2 ha3 (T_OwnerMoved a0.ls a1 a2 a3)).mono fun e w' ⟨v, he, hv, H⟩ => ⟨by rw [he, hv], H.below⟩
end Go.Proofs.Ytcjjblkgbfaapaa
