/-
 wire: the law WireReads, of its arguments' values.
-/
import Derived.Test.YtccjclalngabhaaGreatWiPReads
namespace Go.Proofs.YtccjclalngabhaaGreat
open Go.RowKit
set_option linter.unusedVariables false
set_option linter.unusedSectionVars false
set_option linter.unusedSimpArgs false
theorem sZ (w:World) (b:Sv UInt8) (a:nO w 1 1 eB (fun _=>True) b):
    Calls Tryz.prog 4 #[.slice b.A b.ls.length b.c] w fun e w'=>e= .returned (.bool true)∧Below w.heap.size w w':=
 (qm w (fun _:Nat=>False) b.A b.ls.length b.c b.ls true (AL w) (bD.ro a.2.2.1 (by decide)) rfl (by have:=a.1; have:=a.2.1; omega) a.1 (by have:=a.1; have:=a.2.1; omega) (sW b.ls)).mono fun e w' ⟨v,he,hv,H⟩=>⟨by rw [he,hv],H.below⟩
end Go.Proofs.YtccjclalngabhaaGreat
