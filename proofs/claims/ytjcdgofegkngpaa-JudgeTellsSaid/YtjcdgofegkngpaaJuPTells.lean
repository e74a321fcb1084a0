/-
  Judged, and replayed, as the document does: the law's value.
  Conditions: none.
-/
import Derived.Test.YtjcdgofegkngpaaJuS
import Derived.Test.YtjcdgofegkngpaaJTells
namespace Go.Proofs.Ytjcdgofegkngpaa
set_option linter.unusedVariables false
set_option linter.unusedSimpArgs false
open Go.RowKit
theorem both_eq (l : List SeenT) : r23_Judge l = judge_Judge l ∧ r23_Replay l = judge_Replay l := by
  have h := both l l.length 0 [] [] (inv0 l) (by omega)
  rw [List.drop_zero] at h
  have hr : r23_replay l = rp l l.length := by
    have := replay_take (l := l) (n := l.length) (Nat.le_refl _)
    rwa [List.take_length] at this
  cases hj : jrun l [] [] with
  | inl t =>
    rw [hj] at h
    have e : r23_Judge l = (-1, 0) := by unfold r23_Judge; rw [h.1]; rfl
    constructor
    · rw [e, judge_eq, hj]
    · unfold r23_Replay
      rw [replay_eq, hj, bnd_eq, e]
      simp only [bnd_eq, if_true]
      rw [hr, h.2]
  | inr r =>
    obtain ⟨i, x⟩ := r
    rw [hj] at h
    simp only [Nat.zero_add] at h
    have e : r23_Judge l = (((i : Nat) : Int), x) := by unfold r23_Judge; rw [h]; rfl
    constructor
    · rw [e, judge_eq, hj]
    · unfold r23_Replay
      rw [replay_eq, hj, bnd_eq, e]
      simp only
      rw [if_neg (jrun_err hj).1]
theorem te_L0 (l : List SeenT) (b : Bool) : ∀ n, w23_JudgeTells_L0 l b n = .inl ()
  | 0 => rfl
  | n + 1 => by
    unfold w23_JudgeTells_L0
    simp only [bnd_eq]
    rw [(both_eq l).1, (both_eq l).2, if_pos rfl, if_pos rfl, if_pos rfl, if_pos (sm_refl _)]
    exact te_L0 l b n
theorem T_JudgeTells (l : List SeenT) : w23_JudgeTells l = true := by
  unfold w23_JudgeTells
  simp only [bnd_eq, live_true]
  by_cases hl : ((List.length l : Nat) : Int) > 100
  · rw [if_pos hl]
  · rw [if_neg hl, te_L0]; rfl
end Go.Proofs.Ytjcdgofegkngpaa
