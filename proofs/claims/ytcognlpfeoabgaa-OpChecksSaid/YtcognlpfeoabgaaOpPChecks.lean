/-
  PROVED HERE: what the law OpChecks tells is true.
  Conditions: none beyond the statements' own.
-/
import Derived.Test.YtcognlpfeoabgaaOChecks
import Derived.Test.YtcognlpfeoabgaaOpL
namespace Go.Proofs.Ytcognlpfeoabgaa
set_option linter.unusedVariables false
open Go.ChangeShapes
theorem chk_L (p0 : OpD) (l1 : List OpD) (l2 : List PairD) (b : Bool) (l : List LockD) : ∀ (q : List LockD) (k : Nat), List.drop k l = q → w04_OpChecks_L0 p0 l1 l2 b l q k = .inl ()
  | [], _, _ => rfl
  | x :: q, k, h => by
    have hx : l[k]? = some x := by
      have e : (List.drop k l)[0]? = some x := by rw [h]; rfl
      rwa [List.getElem?_drop, Nat.add_zero] at e
    rw [w04_OpChecks_L0, bnd_eq, getD_of hx, if_pos ⟨⟨rfl, rfl⟩, rfl⟩]
    exact chk_L p0 l1 l2 b l q (k + 1) (by rw [← List.drop_drop, h]; rfl)
theorem T_OpChecks (p0 : OpD) (l1 : List OpD) (l2 : List PairD) : w04_OpChecks p0 l1 l2 = true := by
  unfold w04_OpChecks
  simp only [bnd_eq, live_true, span_eq, locks_eq, co_eq, chk_eq, cm_eq, wr_eq]
  simp only [and_self, ↓reduceIte]
  rw [chk_L _ _ _ _ _ (r04_Locks l1).1 0 rfl]
  rfl
end Go.Proofs.Ytcognlpfeoabgaa
