/-
  Clones go their own way.
  Conditions: none beyond each law's own.
-/
import Derived.Test.YtmhhmhaigmjekaaDiT
import Derived.Test.YtmhhmhaigmjekaaLClone
namespace Go.Proofs.Ytmhhmhaigmjekaa
set_option linter.unusedVariables false
theorem cl_L0 (r : Bool) (d : DiskT) : ∀ (q k : Nat), w06_DiskClone_L0 r d d q k = .inl ()
  | 0, _ => rfl
  | q + 1, k => by
    unfold w06_DiskClone_L0
    simp only [bnd, if_true, ne_eq, not_true_eq_false, if_false]
    exact cl_L0 r d q (k + 1)
theorem T_DiskClone (l0 l1 l2 : List OpD) : w06_DiskClone l0 l1 l2 = true := by
  unfold w06_DiskClone
  simp only [bnd, live_true, if_true]
  split
  · rfl
  · unfold disk_Disk_Clone
    rw [cl_L0]
    rfl
end Go.Proofs.Ytmhhmhaigmjekaa
