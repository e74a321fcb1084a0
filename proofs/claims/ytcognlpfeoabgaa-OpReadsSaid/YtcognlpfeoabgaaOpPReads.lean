/-
  PROVED HERE: what the law OpReads tells is true.
  Conditions: none beyond the statements' own.
-/
import Derived.Test.YtcognlpfeoabgaaOReads
import Derived.Test.YtcognlpfeoabgaaOpL
namespace Go.Proofs.Ytcognlpfeoabgaa
set_option linter.unusedVariables false
open Go.ChangeShapes
theorem rds_L (l0 : List PairD) (l1 : List OpD) (b : Bool) (m : List PairD) (r : List ResultT) : ∀ (q : List OpD) (c : Bool), w04_OpReads_L0 l0 l1 b m r q c = (c || q.any op_Writes)
  | [], c => by rw [w04_OpReads_L0]; simp
  | x :: q, c => by
    rw [w04_OpReads_L0, List.any_cons]
    cases c
    · rw [if_neg (by simp), bnd_eq, rds_L l0 l1 b m r q]; simp
    · rw [if_pos rfl, rds_L l0 l1 b m r q]; simp
theorem T_OpReads (l0 : List PairD) (l1 : List OpD) : w04_OpReads l0 l1 = true := by
  unfold w04_OpReads
  simp only [bnd_eq, live_true]
  by_cases h : op_CheckMap l0 = 0 ∧ op_checkEach l1 = 0
  · rw [apply_ok h.1 h.2]
    have ho := ce_0.1 h.2
    simp only [run_keep h.1 ho, run_len, rds_L, if_true, Bool.false_or]
    by_cases hw : List.any l1 op_Writes = true
    · rw [if_pos hw]
    · rw [if_neg hw, run_read h.1 ho fun o hm => by
        cases e : op_Writes o with
        | false => rfl
        | true => exact absurd (List.any_eq_true.2 ⟨o, hm, e⟩) hw]
      exact sm_refl _
  · obtain ⟨e, h2⟩ := apply_bad h
    rw [e]
    simp only
    rw [if_neg h2]; rfl
end Go.Proofs.Ytcognlpfeoabgaa
