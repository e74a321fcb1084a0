/-
 judge: the law JudgeMore, of its arguments' values.
-/
import Derived.Test.YtjcdgofegkngpaaJuPMore
namespace Go.Proofs.Ytjcdgofegkngpaa
open Go.RowKit
set_option linter.unusedVariables false
set_option linter.unusedSectionVars false
set_option linter.unusedSimpArgs false

theorem W_JudgeMore (w : World) (a0 : Sv SeenD) (ha0 : SvOk w 6 80 SeenD.cells (SeenD.Ok w) a0) (a1 : Sv OpD) (ha1 : SvOk w 6 80 OpD.cells (OpD.Ok w) a1) (hb : bk a0 + bk a1 ≤ 1048576) :
    Calls Try.prog 6 #[.slice a0.A a0.ls.length a0.c, .slice a1.A a1.ls.length a1.c] w fun e w' => e = .returned (.bool true) ∧ Below w.heap.size w w' :=
 (w23_JudgeMore_ok w (fun _ : Nat => False) a0.A a0.ls.length a0.c a0.ls (List.map SeenD.abs a0.ls) a1.A a1.ls.length a1.c a1.ls true (Own.start w) rfl (Rds.ro ha0.2.2.1 (by decide)) (fun x9 h9 => ⟨Rds.ro (ha0.2.2.2 x9 h9).2.2.2.2.1.2.2.1 (by decide), (by have q1 := (ha0.2.2.2 x9 h9).2.2.2.2.1.1; have q2 := (ha0.2.2.2 x9 h9).2.2.2.2.1.2.1; omega), Rds.ro (ha0.2.2.2 x9 h9).2.2.2.2.2.2.2.1 (by decide), (by have q1 := (ha0.2.2.2 x9 h9).2.2.2.2.2.1; have q2 := (ha0.2.2.2 x9 h9).2.2.2.2.2.2.1; omega), (fun y1 k1 => ⟨Rds.ro ((ha0.2.2.2 x9 h9).2.2.2.2.2.2.2.2 y1 k1).2.2.2.2.1 (by decide), (by have q1 := ((ha0.2.2.2 x9 h9).2.2.2.2.2.2.2.2 y1 k1).2.2.1; have q2 := ((ha0.2.2.2 x9 h9).2.2.2.2.2.2.2.2 y1 k1).2.2.2.1; omega)⟩)⟩) (List.length_map ..).symm (by rw [List.length_map]; have := ha0.1; have := ha0.2.1; omega) (Rds.ro ha1.2.2.1 (by decide)) rfl (by have := ha1.1; have := ha1.2.1; omega) ha1.1 (by rw [List.length_map]; have := ha0.1; have := ha0.2.1; omega) (by have := ha1.1; have := ha1.2.1; omega) (ju_len hb) (T_JudgeMore _ _ (ju_nums ha0))).mono fun e w' ⟨v, he, hv, H⟩ => ⟨by rw [he, hv], H.below⟩
end Go.Proofs.Ytjcdgofegkngpaa
