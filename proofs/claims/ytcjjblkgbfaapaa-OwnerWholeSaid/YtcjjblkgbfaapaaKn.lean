/-
  Several effects of a region may come up at once; the greater of two strings.
  Conditions: none beyond each law's own.
-/
import Derived.Test.YtcjjblkgbfaapaaKm
import Derived.Lib.MinMaxS
namespace Go.Proofs.Ytcjjblkgbfaapaa
set_option linter.unusedVariables false
set_option linter.unusedSimpArgs false
open Go.RowKit
section
variable {P : Program} {ops : Array Oper} {Q : Exit → Act → World → Prop} {ks : List Nat} {Good : World → Prop} {n : Nat} {F : List (Nat × Value)} {w : World} {op : Op} {ty : TypeId} {v : Value} {fuel : Nat} {l : List Nat} {pos : String} {aft : Array Edge} {d : Nat}
def maxL (a b : List UInt8) : List UInt8 := if a < b then b else a
theorem Yl.maxStr {x y : Operand} {ts : Array TypeId} {a b : List UInt8} (ha : evl F [x, y] = some [.string ⟨a.toArray⟩, .string ⟨b.toArray⟩]) : Yl P n F w (.call ⟨.builtin .max, #[x, y], ts⟩) ty (.string ⟨(maxL a b).toArray⟩) := fun ac hag o h1 _ => by
  unfold execOp
  rw [h1]
  have he := hag.evals ha
  have e : Lib.maxS ⟨a.toArray⟩ ⟨b.toArray⟩ = ⟨(maxL a b).toArray⟩ := by
    unfold Lib.maxS maxL
    by_cases h : a < b <;> simp [h]
  simp [resolve, Act.eval, Deferred.ofValue, invoke, he, builtin, Lib.run_max_strs, Result.andThen, e]
def GY (P : Program) (ops : Array Oper) (Q : Exit → Act → World → Prop) (ks : List Nat) (Good : World → Prop) (fuel : Nat) (l : List Nat) (n : Nat) (F : List (Nat × Value)) (w : World) (i : Nat) : Prop :=
  NoP Q → Region.noSelect ops = true → GO P ops Q (Keep ks Good) fuel (lsd ops.size l) n F w i
def dxs (ops : Array Oper) (rs : List Nat) (l : List Nat) : Bool := decide (Region.ready .any ops (lsd ops.size l) = rs)
theorem GX.any2 (i j : Nat) (hk : dxs ops [i, j] l = true) (h1 : GY P ops Q ks Good fuel l n F w i) (h2 : GY P ops Q ks Good fuel l n F w j) : GX P ops Q ks Good (fuel + 1) l n F w := fun hQ hs => by
  refine GW.any (of_decide_eq_true hk) rfl fun q hq => ?_
  rcases List.mem_cons.1 hq with rfl | hq
  · exact h1 hQ hs
  · rw [List.mem_singleton.1 hq]; exact h2 hQ hs
theorem GY.do (i : Nat) (hi : ops[i]? = some ⟨some d, op, ty, pos, aft, none⟩) (hk : Nat.blt d n = true)
    (h : Do P n F w op ty fun v w' => (ks.any (fun k => (lsd ops.size (i :: l)).getD k false) = true ∨ Good w') ∧ GX P ops Q ks Good fuel (i :: l) n ((d, v) :: F) w') : GY P ops Q ks Good fuel l n F w i := fun hQ hs =>
  GO.do hi hk rfl (h.mono fun v w' k => ⟨k.1, k.2 hQ hs⟩)
theorem GY.do0 (i : Nat) (hi : ops[i]? = some ⟨none, op, ty, pos, aft, none⟩) (hk : true = true)
    (h : Do P n F w op ty fun _ w' => (ks.any (fun k => (lsd ops.size (i :: l)).getD k false) = true ∨ Good w') ∧ GX P ops Q ks Good fuel (i :: l) n F w') : GY P ops Q ks Good fuel l n F w i := fun hQ hs =>
  GO.do0 hi rfl (h.mono fun v w' k => ⟨k.1, k.2 hQ hs⟩)
end
end Go.Proofs.Ytcjjblkgbfaapaa
