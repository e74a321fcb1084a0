/-
  node: the law NodeSizes, of its arguments' values.
-/
import Derived.Test.YtfkkipmdnjfocaaNoPSizes
namespace Go.Proofs.Ytfkkipmdnjfocaa
open Go.RowKit
set_option linter.unusedVariables false
set_option linter.unusedSectionVars false
set_option linter.unusedSimpArgs false

theorem W_NodeSizes (w : World) (a0 : NodeD) (ha0 : NodeD.Ok w a0) (hb : bk a0 ≤ 1048576) :
    Calls Try.prog 4 #[.agg #[.bool a0.xLeaf, .slice a0.xPairs.A (List.length a0.xPairs.ls) a0.xPairs.c, .slice a0.xKids.A (List.length a0.xKids.ls) a0.xKids.c, .slice a0.xPivots.A (List.length a0.xPivots.ls) a0.xPivots.c, .slice a0.xBuffers.A (List.length a0.xBuffers.ls) a0.xBuffers.c]] w fun e w' => e = .returned (.bool true) ∧ Below w.heap.size w w' :=
  (w13_NodeSizes_ok w (fun _ : Nat => False) (NodeD.abs a0) a0.xPairs.A (List.length a0.xPairs.ls) a0.xPairs.c a0.xKids.A (List.length a0.xKids.ls) a0.xKids.c a0.xPivots.A (List.length a0.xPivots.ls) a0.xPivots.c a0.xBuffers.A (List.length a0.xBuffers.ls) a0.xBuffers.c a0.xBuffers.ls true (Own.start w) rfl (Rds.ro ha0.2.1.2.2.1 (by decide)) (show List.length a0.xPairs.ls ≤ _ ∧ List.length a0.xPairs.ls ≤ _ from by have q0 := ha0.2.1.1; have q1 := ha0.2.1.2.1; exact ⟨q0, by omega⟩) rfl (Rds.ro ha0.2.2.1.2.2.1 (by decide)) (show List.length a0.xKids.ls ≤ _ ∧ List.length a0.xKids.ls ≤ _ from by have q0 := ha0.2.2.1.1; have q1 := ha0.2.2.1.2.1; exact ⟨q0, by omega⟩) rfl (Rds.ro ha0.2.2.2.1.2.2.1 (by decide)) (show List.length a0.xPivots.ls ≤ _ ∧ List.length a0.xPivots.ls ≤ _ from by have q0 := ha0.2.2.2.1.1; have q1 := ha0.2.2.2.1.2.1; exact ⟨q0, by omega⟩) rfl (List.length_map ..).symm (show Ro w _ fun w' => Rds w' _ _ (List.length (List.map _ _)) _ from by rw [List.length_map]; exact Rds.ro ha0.2.2.2.2.2.2.1 (by decide)) (show List.length (List.map _ _) ≤ _ ∧ List.length (List.map _ _) ≤ _ from by rw [List.length_map]; have q0 := ha0.2.2.2.2.1; have q1 := ha0.2.2.2.2.2.1; exact ⟨q0, by omega⟩) (fun x9 h9 => ⟨Rds.ro (ha0.2.2.2.2.2.2.2 x9 h9).2.2.1 (by decide), (by have q1 := (ha0.2.2.2.2.2.2.2 x9 h9).1; have q2 := (ha0.2.2.2.2.2.2.2 x9 h9).2.1; omega)⟩) (show List.length a0.xPairs.ls * _ ≤ _ from by have q1 := ha0.2.1.1; have q2 := ha0.2.1.2.1; omega) (show List.length a0.xKids.ls * _ ≤ _ from by have q1 := ha0.2.2.1.1; have q2 := ha0.2.2.1.2.1; omega) (show List.length a0.xPivots.ls * _ ≤ _ from by have q1 := ha0.2.2.2.1.1; have q2 := ha0.2.2.2.1.2.1; omega) (show List.length (List.map _ _) * _ ≤ _ from by rw [List.length_map]; have q1 := ha0.2.2.2.2.1; have q2 := ha0.2.2.2.2.2.1; omega) (small_of ha0 hb) (T_NodeSizes (NodeD.abs a0))).mono fun e w' ⟨v, he, hv, H⟩ => ⟨by rw [he, hv], H.below⟩
end Go.Proofs.Ytfkkipmdnjfocaa
