/-
  wire: the law WireBodies, of its arguments' values.
-/
import Derived.Test.YtccjclalngabhaaGreatWiPBodies
namespace Go.Proofs.YtccjclalngabhaaGreat
open Go.RowKit
set_option linter.unusedVariables false
set_option linter.unusedSectionVars false
set_option linter.unusedSimpArgs false
theorem W_WireBodies (w : World) (a0 : Sv UInt8) (ha0 : SvOk w 1 1 eB (fun _ => True) a0) :
    Calls Tryz.prog 5 #[.slice a0.A a0.ls.length a0.c] w fun e w' => e = .returned (.bool true) ∧ Below w.heap.size w w' :=
  (w18_WireBodies_ok w (fun _ : Nat => False) a0.A a0.ls.length a0.c a0.ls true (Own.start w) (Rds.ro ha0.2.2.1 (by decide)) rfl (by have := ha0.1; have := ha0.2.1; omega) ha0.1 (by have := ha0.1; have := ha0.2.1; omega) (T_WireBodies a0.ls)).mono fun e w' ⟨v, he, hv, H⟩ => ⟨by rw [he, hv], H.below⟩
end Go.Proofs.YtccjclalngabhaaGreat
