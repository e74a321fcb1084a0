/-
  node: the law NodeWrites, of its arguments' values.
-/
import Derived.Test.YtfkkipmdnjfocaaGreatNoPWrites
namespace Go.Proofs.YtfkkipmdnjfocaaGreat
open Go.RowKit
set_option linter.unusedVariables false
set_option linter.unusedSectionVars false
set_option linter.unusedSimpArgs false

theorem W_NodeWrites (w : World) (a0 : NodeD) (ha0 : NodeD.Ok w a0) (a1 : List UInt8) (ha1 : a1.length ≤ 140737488351232) (hb : bk a0 + bk a1 ≤ 1048576) :
    Calls Tryz.prog 3 #[.agg #[.bool a0.xLeaf, .slice a0.xPairs.A a0.xPairs.ls.length a0.xPairs.c, .slice a0.xKids.A a0.xKids.ls.length a0.xKids.c, .slice a0.xPivots.A a0.xPivots.ls.length a0.xPivots.c, .slice a0.xBuffers.A a0.xBuffers.ls.length a0.xBuffers.c], .string ⟨List.toArray a1⟩] w fun e w' => e = .returned (.bool true) ∧ Below w.heap.size w w' :=
  (w13_NodeWrites_ok w (fun _ : Nat => False) (NodeD.abs a0) a0.xPairs.A a0.xPairs.ls.length a0.xPairs.c a0.xKids.A a0.xKids.ls.length a0.xKids.c a0.xPivots.A a0.xPivots.ls.length a0.xPivots.c a0.xBuffers.A a0.xBuffers.ls.length a0.xBuffers.c a0.xBuffers.ls a1 true (Own.start w) rfl (Rds.ro ha0.2.1.2.2.1 (by decide)) (show a0.xPairs.ls.length ≤ _ ∧ a0.xPairs.ls.length ≤ _ from by have q0 := ha0.2.1.1; have q1 := ha0.2.1.2.1; exact ⟨q0, by omega⟩) rfl (Rds.ro ha0.2.2.1.2.2.1 (by decide)) (show a0.xKids.ls.length ≤ _ ∧ a0.xKids.ls.length ≤ _ from by have q0 := ha0.2.2.1.1; have q1 := ha0.2.2.1.2.1; exact ⟨q0, by omega⟩) rfl (Rds.ro ha0.2.2.2.1.2.2.1 (by decide)) (show a0.xPivots.ls.length ≤ _ ∧ a0.xPivots.ls.length ≤ _ from by have q0 := ha0.2.2.2.1.1; have q1 := ha0.2.2.2.1.2.1; exact ⟨q0, by omega⟩) rfl (List.length_map ..).symm (show Ro w _ fun w' => Rds w' _ _ (List.length (List.map _ _)) _ from by rw [List.length_map]; exact Rds.ro ha0.2.2.2.2.2.2.1 (by decide)) (show List.length (List.map _ _) ≤ _ ∧ List.length (List.map _ _) ≤ _ from by rw [List.length_map]; have q0 := ha0.2.2.2.2.1; have q1 := ha0.2.2.2.2.2.1; exact ⟨q0, by omega⟩) (fun x9 h9 => ⟨Rds.ro (ha0.2.2.2.2.2.2.2 x9 h9).2.2.1 (by decide), (by have q1 := (ha0.2.2.2.2.2.2.2 x9 h9).1; have q2 := (ha0.2.2.2.2.2.2.2 x9 h9).2.1; omega)⟩) (show a0.xPairs.ls.length * _ ≤ _ from by have q1 := ha0.2.1.1; have q2 := ha0.2.1.2.1; omega) (show a0.xKids.ls.length * _ ≤ _ from by have q1 := ha0.2.2.1.1; have q2 := ha0.2.2.1.2.1; omega) (show a0.xPivots.ls.length * _ ≤ _ from by have q1 := ha0.2.2.2.1.1; have q2 := ha0.2.2.2.1.2.1; omega) (show List.length (List.map _ _) * _ ≤ _ from by rw [List.length_map]; have q1 := ha0.2.2.2.2.1; have q2 := ha0.2.2.2.2.2.1; omega) ha1 (small_of ha0 (by omega)) (T_NodeWrites hb)).mono fun e w' ⟨v, he, hv, H⟩ => ⟨by rw [he, hv], H.below⟩
end Go.Proofs.YtfkkipmdnjfocaaGreat
