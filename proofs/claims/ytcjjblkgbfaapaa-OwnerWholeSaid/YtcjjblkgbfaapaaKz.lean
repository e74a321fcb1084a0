/-
  Maps whose keys are structs of two numbers, and whose values hold slices: what a key's type must say; lookups, updates, clear.
  Conditions: none beyond each law's own.
-/
import Derived.Test.YtcjjblkgbfaapaaKv
namespace Go.Proofs.Ytcjjblkgbfaapaa
set_option linter.unusedVariables false
set_option linter.unusedSimpArgs false
set_option linter.unusedSectionVars false
open Go.RowKit
structure KeyG {κ : Type} (P : Program) (kt : TypeId) (ek : κ → Value) : Prop where
  check : ∀ (em : Bool) (a : κ) (w : World), (Instr.checkKey em 10000 kt (ek a)).run P w = .ok () w
  find : ∀ (a : κ) (w : World) (es : List MapEntry) (ks : List κ), es.map (·.key) = ks.map ek →
    ((Instr.findKey kt (ek a) es).run P w = .ok none w ∧ a ∉ ks) ∨ ∃ j e, (Instr.findKey kt (ek a) es).run P w = .ok (some (j, e.val)) w ∧ es[j]? = some e ∧ ks[j]? = some a
  stay : ∀ (a : κ) (w : World), (Instr.keyThatStays (ek a) (ek a)).run P w = .ok (ek a) w
section
variable {κ : Type} [DecidableEq κ] {P : Program} {kt : TypeId} {ek : κ → Value}
end
section
variable {P : Program} {t : TypeId} {k : IntKind}
end
section
variable {κ ν δ τ : Type} [DecidableEq κ]
theorem getD_some {o : Option ν} {d x : ν} (h : o = some x) : Option.getD o d = x := by rw [h]; rfl
end
section
variable {κ ν : Type} [DecidableEq κ] {P : Program} {n : Nat} {F : List (Nat × Value)} {w0 w : World} {D : Nat → Prop} {L : List HP} {ty t kt e : TypeId} {K : Value → World → Prop} {x y q : Operand} {ek : κ → Value} {vv : ν → Value} {m : List (κ × ν)} {g i : Nat} {z : Value} {d0 : ν}
end
section
variable {κ δ τ : Type} [DecidableEq κ] {abs : δ → τ} {m : List (κ × δ)} {mab : List (κ × τ)} {k : κ}
end
end Go.Proofs.Ytcjjblkgbfaapaa
