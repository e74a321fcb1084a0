/-
 judge: the law JudgeTurns, of its arguments' values.
-/
import Derived.Test.YtjcdgofegkngpaaJuPTurns
namespace Go.Proofs.Ytjcdgofegkngpaa
open Go.RowKit
set_option linter.unusedVariables false
set_option linter.unusedSectionVars false
set_option linter.unusedSimpArgs false

theorem W_JudgeTurns (w : World) (a0 : Sv SeenD) (ha0 : SvOk w 6 80 SeenD.cells (SeenD.Ok w) a0) (a1 : Int) (ha1 : (-9223372036854775808) ≤ a1 ∧ a1 ≤ 9223372036854775807) (hb : bk a0 + bk a1 ≤ 1048576) :
    Calls Try.prog 7 #[.slice a0.A a0.ls.length a0.c, .int .i64 a1] w fun e w' => e = .returned (.bool true) ∧ Below w.heap.size w w' :=
 (w23_JudgeTurns_ok w (fun _ : Nat => False) a0.A a0.ls.length a0.c a0.ls (List.map SeenD.abs a0.ls) a1 true (Own.start w) rfl (Rds.ro ha0.2.2.1 (by decide)) (fun x9 h9 => ⟨Rds.ro (ha0.2.2.2 x9 h9).2.2.2.2.1.2.2.1 (by decide), (by have q1 := (ha0.2.2.2 x9 h9).2.2.2.2.1.1; have q2 := (ha0.2.2.2 x9 h9).2.2.2.2.1.2.1; omega), Rds.ro (ha0.2.2.2 x9 h9).2.2.2.2.2.2.2.1 (by decide), (by have q1 := (ha0.2.2.2 x9 h9).2.2.2.2.2.1; have q2 := (ha0.2.2.2 x9 h9).2.2.2.2.2.2.1; omega), (fun y1 k1 => ⟨Rds.ro ((ha0.2.2.2 x9 h9).2.2.2.2.2.2.2.2 y1 k1).2.2.2.2.1 (by decide), (by have q1 := ((ha0.2.2.2 x9 h9).2.2.2.2.2.2.2.2 y1 k1).2.2.1; have q2 := ((ha0.2.2.2 x9 h9).2.2.2.2.2.2.2.2 y1 k1).2.2.2.1; omega)⟩)⟩) (List.length_map ..).symm (by rw [List.length_map]; have := ha0.1; have := ha0.2.1; omega) (by rw [List.length_map]; have := ha0.1; have := ha0.2.1; omega) ha1 (ju_len2 hb) (ju_ops hb) (T_JudgeTurns (List.map SeenD.abs a0.ls) a1)).mono fun e w' ⟨v, he, hv, H⟩ => ⟨by rw [he, hv], H.below⟩
end Go.Proofs.Ytjcdgofegkngpaa
