/-
 cache: the law CacheRule, of its arguments' values.
-/
import Derived.Test.YtkekaemfokmhdaaCaPRule
namespace Go.Proofs.Ytkekaemfokmhdaa
open Go.RowKit
set_option linter.unusedVariables false
set_option linter.unusedSectionVars false
set_option linter.unusedSimpArgs false

theorem W_CacheRule (w : World) (a0 : Int) (ha0 : (-9223372036854775808) ≤ a0 ∧ a0 ≤ 9223372036854775807) (a1 : Sv OpD) (ha1 : SvOk w 4 40 OpD.cells (OpD.Ok w) a1) :
    Calls Try.prog 4 #[.int .i64 a0, .slice a1.A a1.ls.length a1.c] w fun e w' => e = .returned (.bool true) ∧ Below w.heap.size w w' :=
 (w10_CacheRule_ok w (fun _ : Nat => False) a0 a1.A a1.ls.length a1.c a1.ls true (Own.start w) (Rds.ro ha1.2.2.1 (by decide)) rfl (by have := ha1.1; have := ha1.2.1; omega) ha0 (by have := ha1.1; have := ha1.2.1; omega) (fun x9 h9 => (ha1.2.2.2 x9 h9).2.2.1) (T_CacheRule a0 a1.ls)).mono fun e w' ⟨v, he, hv, H⟩ => ⟨by rw [he, hv], H.below⟩
end Go.Proofs.Ytkekaemfokmhdaa
