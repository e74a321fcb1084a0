/-
 cache: the law CacheGoes, of its arguments' values.
-/
import Derived.Test.YtkekaemfokmhdaaCaPGoes
namespace Go.Proofs.Ytkekaemfokmhdaa
open Go.RowKit
set_option linter.unusedVariables false
set_option linter.unusedSectionVars false
set_option linter.unusedSimpArgs false

theorem W_CacheGoes (w : World) (a0 : Int) (ha0 : (-9223372036854775808) ≤ a0 ∧ a0 ≤ 9223372036854775807) (a1 : Int) (ha1 : (-9223372036854775808) ≤ a1 ∧ a1 ≤ 9223372036854775807) (a2 : Sv OpD) (ha2 : SvOk w 4 40 OpD.cells (OpD.Ok w) a2) :
    Calls Try.prog 3 #[.int .i64 a0, .int .i64 a1, .slice a2.A a2.ls.length a2.c] w fun e w' => e = .returned (.bool true) ∧ Below w.heap.size w w' :=
 (w10_CacheGoes_ok w (fun _ : Nat => False) a0 a1 a2.A a2.ls.length a2.c a2.ls true (Own.start w) (Rds.ro ha2.2.2.1 (by decide)) rfl (by have := ha2.1; have := ha2.2.1; omega) ha0 ha1 (by have := ha2.1; have := ha2.2.1; omega) (fun x9 h9 => (ha2.2.2.2 x9 h9).2.2.1) (T_CacheGoes a0 a1 a2.ls)).mono fun e w' ⟨v, he, hv, H⟩ => ⟨by rw [he, hv], H.below⟩
end Go.Proofs.Ytkekaemfokmhdaa
