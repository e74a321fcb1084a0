/-
  How many results a gathering tells. Conditions: none beyond each law's own.
-/
import Derived.Test.YtcjjblkgbfaapaaGe
namespace Go.Proofs.Ytcjjblkgbfaapaa
set_option linter.unusedVariables false
set_option linter.unusedSimpArgs false
theorem gO2_len (l43 : List (Ll ResultT)) : ∀ (q : List OpD) (k : Nat) (l : List ResultT), (owner_Gather_L2 l43 q k l).length = l.length
  | [], _, _ => by rw [owner_Gather_L2]
  | x :: q, k, l => by
    rw [owner_Gather_L2]
    simp only [bnd]
    rw [gO2_len l43 q]; exact List.length_set
theorem gO_len {l0 : List OpD} {l1 : List PartT} {l2 : List (Ll ResultT)} {r : List ResultT} {e : Int} (h : owner_Gather l0 l1 l2 = (r, e)) : List.length r ≤ List.length l0 := by
  have : List.length (owner_Gather l0 l1 l2).1 ≤ List.length l0 := by
    unfold owner_Gather
    simp only [bnd]
    split
    · show List.length (owner_Gather_L2 _ l0 0 _) ≤ _
      rw [gO2_len, List.length_replicate]; exact Nat.le_refl _
    · exact Nat.zero_le _
  rw [h] at this; exact this
end Go.Proofs.Ytcjjblkgbfaapaa
