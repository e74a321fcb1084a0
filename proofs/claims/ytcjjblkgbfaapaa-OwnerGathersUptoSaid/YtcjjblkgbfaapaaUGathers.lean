/-
 owner: the law OwnerGathers, of its arguments' values.
-/
import Derived.Test.YtcjjblkgbfaapaaGaPGathers
namespace Go.Proofs.Ytcjjblkgbfaapaa
open Go.RowKit
set_option linter.unusedVariables false
set_option linter.unusedSectionVars false
set_option linter.unusedSimpArgs false

theorem W_OwnerGathers (w : World) (a0 : Sv OpD) (ha0 : SvOk w 6 80 OpD.cells (OpD.Ok w) a0) (a1 : Sv PartD) (ha1 : SvOk w 3 56 PartD.cells (PartD.Ok w) a1) (a2 : Sv (Sv ResultD)) (ha2 : SvOk w 1 24 (Sv.enc (β := ResultD)) (SvOk w 3 48 ResultD.cells (ResultD.Ok w)) a2) (hb : bk a0 + bk a1 + bk a2 ≤ 1048576) :
    Calls Try.prog 5 #[.slice a0.A a0.ls.length a0.c, .slice a1.A a1.ls.length a1.c, .slice a2.A a2.ls.length a2.c] w fun e w' => e = .returned (.bool true) ∧ Below w.heap.size w w' :=
 (w17_OwnerGathers_ok w (fun _ : Nat => False) a0.A a0.ls.length a0.c a0.ls a1.A a1.ls.length a1.c a1.ls (List.map PartD.abs a1.ls) a2.A a2.ls.length a2.c a2.ls (List.map Row49D.abs a2.ls) true (Own.start w) (Rds.ro ha0.2.2.1 (by decide)) rfl (by have := ha0.1; have := ha0.2.1; omega) rfl (Rds.ro ha1.2.2.1 (by decide)) (fun x9 h9 => ⟨Rds.ro (ha1.2.2.2 x9 h9).2.1.2.2.1 (by decide), (by have q1 := (ha1.2.2.2 x9 h9).2.1.1; have q2 := (ha1.2.2.2 x9 h9).2.1.2.1; omega), Rds.ro (ha1.2.2.2 x9 h9).2.2.2.2.1 (by decide), (by have q1 := (ha1.2.2.2 x9 h9).2.2.1; have q2 := (ha1.2.2.2 x9 h9).2.2.2.1; omega)⟩) (List.length_map ..).symm (by rw [List.length_map]; have := ha1.1; have := ha1.2.1; omega) rfl (Rds.ro ha2.2.2.1 (by decide)) (fun x9 h9 => ⟨Rds.ro (ha2.2.2.2 x9 h9).2.2.1 (by decide), (by have q1 := (ha2.2.2.2 x9 h9).1; have q2 := (ha2.2.2.2 x9 h9).2.1; omega), (fun y1 k1 => ⟨Rds.ro ((ha2.2.2.2 x9 h9).2.2.2 y1 k1).2.2.2.2.1 (by decide), (by have q1 := ((ha2.2.2.2 x9 h9).2.2.2 y1 k1).2.2.1; have q2 := ((ha2.2.2.2 x9 h9).2.2.2 y1 k1).2.2.2.1; omega)⟩)⟩) (List.length_map ..).symm (by rw [List.length_map]; have := ha2.1; have := ha2.2.1; omega) (by have := ha0.1; have := ha0.2.1; omega) (by rw [List.length_map]; have := ha1.1; have := ha1.2.1; omega) (by rw [List.length_map]; have := ha2.1; have := ha2.2.1; omega) (ga_small hb) (T_OwnerGathers a0.ls (List.map PartD.abs a1.ls) (List.map Row49D.abs a2.ls))).mono fun e w' ⟨v, he, hv, H⟩ => ⟨by rw [he, hv], H.below⟩
end Go.Proofs.Ytcjjblkgbfaapaa
