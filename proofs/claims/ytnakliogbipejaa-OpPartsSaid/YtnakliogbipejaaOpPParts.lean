/-
  PROVED HERE: what the law OpParts tells is true.
  Conditions: none beyond the statements' own.
-/
import Derived.Test.YtnakliogbipejaaOParts
import Derived.Test.YtnakliogbipejaaOpR
namespace Go.Proofs.Ytnakliogbipejaa
set_option linter.unusedVariables false
set_option linter.unusedSimpArgs false
open Go.ChangeShapes
theorem sr_L (l : List ResultT) : ∀ (q : List ResultT) (k : Nat), List.drop k l = q → r04_SameResults_L0 l q k = .inl ()
  | [], _, _ => rfl
  | x :: q, k, h => by
    have hx : l[k]? = some x := by
      have e : (List.drop k l)[0]? = some x := by rw [h]; rfl
      rwa [List.getElem?_drop, Nat.add_zero] at e
    rw [r04_SameResults_L0, bnd_eq, getD_of hx, if_pos rfl, if_neg (fun q => q rfl), bnd_eq, sm_refl, if_pos rfl]
    exact sr_L l q (k + 1) (by rw [← List.drop_drop, h]; rfl)
theorem sr_refl (l : List ResultT) : r04_SameResults l l = true := by
  unfold r04_SameResults
  rw [if_pos rfl, sr_L l l 0 rfl]; rfl
theorem T_OpParts (l0 : List PairD) (l1 : List OpD) (p2 : Int) : w04_OpParts l0 l1 p2 = true := by
  unfold w04_OpParts
  simp only [bnd_eq, live_true]
  generalize Int.toNat (remI (((remI p2 (List.length l1 + 1)) + ((List.length l1 : Nat) : Int)) + 1) (List.length l1 + 1)) = c
  by_cases h : op_CheckMap l0 = 0 ∧ op_checkEach l1 = 0
  · have ho := ce_0.1 h.2
    have h1 : op_checkEach (List.take c l1) = 0 := ce_0.2 fun o q => ho o (List.mem_of_mem_take q)
    have h2 : op_checkEach (List.drop c l1) = 0 := ce_0.2 fun o q => ho o (List.mem_of_mem_drop q)
    rw [apply_ok h.1 h.2, apply_ok h.1 h1]
    dsimp only
    rw [apply_ok (run_keep h.1 (ce_0.1 h1)) h2]
    have e : run l0 l1 = ((run (run l0 (List.take c l1)).1 (List.drop c l1)).1, (run l0 (List.take c l1)).2 ++ (run (run l0 (List.take c l1)).1 (List.drop c l1)).2) := by
      rw [← run_app, List.take_append_drop]
    rw [e]
    simp only [sm_refl, sr_refl, ↓reduceIte]
  · obtain ⟨e, h2⟩ := apply_bad h
    rw [e]
    dsimp only
    rw [if_neg h2]
end Go.Proofs.Ytnakliogbipejaa
