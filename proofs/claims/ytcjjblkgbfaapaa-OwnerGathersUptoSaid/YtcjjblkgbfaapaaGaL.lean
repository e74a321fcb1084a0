/-
  How many results a gathering tells. Conditions: none beyond each law's own.
-/
import Derived.Test.YtcjjblkgbfaapaaGe
namespace Go.Proofs.Ytcjjblkgbfaapaa
set_option linter.unusedVariables false
set_option linter.unusedSimpArgs false
theorem gO2_len (l43 : List (Ll ResultT)) : ∀ (q : List OpD) (k : Nat) (l : List ResultT), (owner_Gather_L2 l43 q k l).length = l.length
  | [], _, _ => by rw [owner_Gather_L2]
  | x :: q, k, l => by
    rw [owner_Gather_L2]
    simp only [bnd]
    rw [gO2_len l43 q]; exact List.length_set
theorem gO_len {l0 : List OpD} {l1 : List PartT} {l2 : List (Ll ResultT)} {r : List ResultT} {e : Int} (h : owner_Gather l0 l1 l2 = (r, e)) : List.length r ≤ List.length l0 := by
  have : List.length (owner_Gather l0 l1 l2).1 ≤ List.length l0 := by
    unfold owner_Gather
    simp only [bnd]
    split
    · show List.length (owner_Gather_L2 _ l0 0 _) ≤ _
      rw [gO2_len, List.length_replicate]; exact Nat.le_refl _
    · exact Nat.zero_le _
  rw [h] at this; exact this
theorem gR2_len (l1 : List PartDT) (l2 : List (Ll ResultT)) : ∀ (q : List OpD) (l : List ResultT) (k : Nat), (r17_Gather_L2 l1 l2 q l k).length = l.length + q.length
  | [], _, _ => by rw [r17_Gather_L2]; rfl
  | x :: q, l, k => by
    rw [r17_Gather_L2]
    simp only [bnd]
    split
    · split <;> (rw [gR2_len l1 l2 q]; simp; omega)
    · rw [gR2_len l1 l2 q]; simp; omega
theorem gR1_e (l0 : List OpD) (k : Nat) : ∀ (q : List Int) (z : List ResultT × Int), r17_Gather_L1 l0 k q = .inr z → z = ([], 1)
  | [], z, h => by rw [r17_Gather_L1] at h; cases h
  | x :: q, z, h => by
    rw [r17_Gather_L1] at h
    split at h
    · cases h; rfl
    · split at h
      · cases h; rfl
      · exact gR1_e l0 k q z h
theorem gR0_e (l0 : List OpD) (l1 : List PartDT) (l2 : List (Ll ResultT)) : ∀ (q : List PartDT) (k : Nat) (z : List ResultT × Int), r17_Gather_L0 l0 l1 l2 q k = .inr z → z = ([], 1)
  | [], k, z, h => by rw [r17_Gather_L0] at h; cases h
  | x :: q, k, z, h => by
    rw [r17_Gather_L0] at h
    simp only [bnd] at h
    split at h
    · split at h
      · cases hc : r17_Gather_L1 l0 k x.xFrom.ls with
        | inl u => rw [hc] at h; exact gR0_e l0 l1 l2 q (k + 1) z h
        | inr u =>
          rw [hc] at h
          have := gR1_e l0 k _ u hc
          cases h; exact this
      · cases h; rfl
    · cases h; rfl
theorem gR_len {l0 : List OpD} {l1 : List PartDT} {l2 : List (Ll ResultT)} {r : List ResultT} {e : Int} (h : r17_Gather l0 l1 l2 = (r, e)) : List.length r ≤ List.length l0 := by
  have : List.length (r17_Gather l0 l1 l2).1 ≤ List.length l0 := by
    unfold r17_Gather
    split
    · cases hc : r17_Gather_L0 l0 l1 l2 l1 0 with
      | inl u =>
        show List.length (r17_Gather_L2 l1 l2 l0 [] 0) ≤ _
        rw [gR2_len]; simp
      | inr u =>
        have := gR0_e l0 l1 l2 l1 0 u hc
        subst this
        exact Nat.zero_le _
    · exact Nat.zero_le _
  rw [h] at this; exact this
end Go.Proofs.Ytcjjblkgbfaapaa
