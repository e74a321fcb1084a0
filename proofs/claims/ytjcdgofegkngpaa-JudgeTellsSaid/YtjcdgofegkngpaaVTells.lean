/-
 judge: the law JudgeTells, of its arguments' values.
-/
import Derived.Test.YtjcdgofegkngpaaJuPTells
namespace Go.Proofs.Ytjcdgofegkngpaa
open Go.RowKit
set_option linter.unusedVariables false
set_option linter.unusedSectionVars false
set_option linter.unusedSimpArgs false
theorem W_JudgeTells (w : World) (a0 : Sv SeenD) (ha0 : SvOk w 6 80 SeenD.cells (SeenD.Ok w) a0) :
    Calls Try.prog 3 #[.slice a0.A a0.ls.length a0.c] w fun e w' => e = .returned (.bool true) ∧ Below w.heap.size w w' :=
 (w23_JudgeTells_ok w (fun _ : Nat => False) a0.A a0.ls.length a0.c a0.ls (List.map SeenD.abs a0.ls) true (Own.start w) rfl (Rds.ro ha0.2.2.1 (by decide)) (fun x9 h9 => ⟨Rds.ro (ha0.2.2.2 x9 h9).2.2.2.2.1.2.2.1 (by decide), (by have q1 := (ha0.2.2.2 x9 h9).2.2.2.2.1.1; have q2 := (ha0.2.2.2 x9 h9).2.2.2.2.1.2.1; omega), Rds.ro (ha0.2.2.2 x9 h9).2.2.2.2.2.2.2.1 (by decide), (by have q1 := (ha0.2.2.2 x9 h9).2.2.2.2.2.1; have q2 := (ha0.2.2.2 x9 h9).2.2.2.2.2.2.1; omega), (fun y1 k1 => ⟨Rds.ro ((ha0.2.2.2 x9 h9).2.2.2.2.2.2.2.2 y1 k1).2.2.2.2.1 (by decide), (by have q1 := ((ha0.2.2.2 x9 h9).2.2.2.2.2.2.2.2 y1 k1).2.2.1; have q2 := ((ha0.2.2.2 x9 h9).2.2.2.2.2.2.2.2 y1 k1).2.2.2.1; omega)⟩)⟩) (List.length_map ..).symm (by rw [List.length_map]; have := ha0.1; have := ha0.2.1; omega) (by rw [List.length_map]; exact ha0.1) (by rw [List.length_map]; have := ha0.1; have := ha0.2.1; omega) (T_JudgeTells (List.map SeenD.abs a0.ls))).mono fun e w' ⟨v, he, hv, H⟩ => ⟨by rw [he, hv], H.below⟩
end Go.Proofs.Ytjcdgofegkngpaa
