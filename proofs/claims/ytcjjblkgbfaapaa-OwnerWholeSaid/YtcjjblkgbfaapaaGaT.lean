/-
  How many pairs results have in all. Conditions: none beyond each law's own.
-/
import Derived.Test.YtcjjblkgbfaapaaGa
namespace Go.Proofs.Ytcjjblkgbfaapaa
set_option linter.unusedVariables false
set_option linter.unusedSimpArgs false
def tot : List ResultT → Nat
  | [] => 0
  | x :: l => List.length x.xPairs.ls + 1 + tot l
theorem tot_app : ∀ a c : List ResultT, tot (a ++ c) = tot a + tot c
  | [], c => (Nat.zero_add _).symm
  | x :: a, c => by rw [List.cons_append, tot, tot, tot_app a c]; omega
theorem tot_take {l : List ResultT} {k : Nat} {x : ResultT} (hx : l[k]? = some x) : tot (List.take (k + 1) l) = tot (List.take k l) + (List.length x.xPairs.ls + 1) := by
  obtain ⟨h, rfl⟩ := List.getElem?_eq_some_iff.1 hx
  rw [List.take_succ_eq_append_getElem h, tot_app]; rfl
theorem tot_step {l : List ResultT} {k n : Nat} {x : ResultT} (h : n ≤ tot (List.take k l)) (hx : l[k]? = some x) : n + List.length x.xPairs.ls ≤ tot (List.take (k + 1) l) := by
  rw [tot_take hx]; omega
theorem tot_le (l : List ResultT) (k : Nat) : tot (List.take k l) ≤ tot l := by
  have := tot_app (List.take k l) (List.drop k l)
  rw [List.take_append_drop] at this
  omega
theorem tot_at {l : List ResultT} {k N : Nat} {x : ResultT} (h : tot l ≤ N) (hx : l[k]? = some x) : tot (List.take k l) + List.length x.xPairs.ls ≤ N := by
  have := tot_le l (k + 1)
  rw [tot_take hx] at this
  omega
theorem tot_len : ∀ l : List ResultT, List.length l ≤ tot l
  | [] => Nat.le_refl _
  | x :: l => by have := tot_len l; rw [tot, List.length_cons]; omega
end Go.Proofs.Ytcjjblkgbfaapaa
