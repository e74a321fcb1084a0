/-
  buffer: the law BufferFinds, of its arguments' values.
-/
import Derived.Test.YtblpdbnklopchaaBuPFinds
namespace Go.Proofs.Ytblpdbnklopchaa
open Go.RowKit
set_option linter.unusedVariables false
set_option linter.unusedSectionVars false
set_option linter.unusedSimpArgs false

theorem W_BufferFinds (w : World) (a0 : Sv EntryD) (ha0 : SvOk w 7 88 EntryD.cells (EntryD.Ok w) a0) (a1 : List UInt8) (ha1 : a1.length ≤ 140737488351232) :
    Calls Try.prog 3 #[.slice a0.A a0.ls.length a0.c, .string ⟨List.toArray a1⟩] w fun e w' => e = .returned (.bool true) ∧ Below w.heap.size w w' :=
  (w12_BufferFinds_ok w (fun _ : Nat => False) a0.A a0.ls.length a0.c a0.ls a1 true (Own.start w) (Rds.ro ha0.2.2.1 (by decide)) rfl (by have := ha0.1; have := ha0.2.1; omega) (by have := ha0.1; have := ha0.2.1; omega) ha1 (T_BufferFinds a0.ls a1)).mono fun e w' ⟨v, he, hv, H⟩ => ⟨by rw [he, hv], H.below⟩
end Go.Proofs.Ytblpdbnklopchaa
