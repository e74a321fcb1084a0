/-
  Of what was seen the beginnings: the law's value.
  Conditions: none.
-/
import Derived.Test.YtjcdgofegkngpaaJuM
import Derived.Test.YtjcdgofegkngpaaJBegins
namespace Go.Proofs.Ytjcdgofegkngpaa
set_option linter.unusedVariables false
set_option linter.unusedSimpArgs false
open Go.RowKit
set_option maxRecDepth 100000 in
theorem live_true : w23_live = true := by decide +kernel
theorem T_JudgeBegins (l : List SeenT) (c : Int) : w23_JudgeBegins l c = true := by
  unfold w23_JudgeBegins
  simp only [bnd_eq, live_true, if_true]
  by_cases hl : ((List.length l : Nat) : Int) > 100
  · rw [if_pos hl]
  rw [if_neg hl]
  generalize remI (((remI c (l.length + 1)) + ((l.length : Nat) : Int)) + 1) (l.length + 1) = z
  have hcut : ∀ n : Nat, jrun l [] [] = match jrun (List.take n l) [] [] with
      | .inl t => (match jrun (List.drop n l) t.1 t.2 with
        | .inl u => .inl u
        | .inr (i, e) => .inr (List.length (List.take n l) + i, e))
      | .inr r => .inr r := fun n => by
    conv => lhs; rw [← List.take_append_drop n l]
    exact jrun_app _ _ _ _
  rw [judge_eq, judge_eq]
  have h := hcut (Int.toNat z)
  cases ha : jrun (List.take (Int.toNat z) l) [] [] with
  | inr r =>
    obtain ⟨i, e⟩ := r
    rw [ha] at h
    simp only at h
    have h1 := jrun_err h
    have h2 := jrun_err ha
    rw [h]
    simp only
    rw [List.length_take] at h2
    rw [if_neg h1.1, if_neg (by omega), if_neg (by omega), if_neg (by omega)]
    simp
  | inl t =>
    rw [ha] at h
    simp only at h
    cases hb : jrun (List.drop (Int.toNat z) l) t.1 t.2 with
    | inl u =>
      rw [hb] at h
      simp only at h
      rw [h]
      simp
    | inr r =>
      obtain ⟨i, e⟩ := r
      rw [hb] at h
      simp only at h
      have h1 := jrun_err h
      have h2 := jrun_err hb
      rw [h]
      simp only
      rw [List.length_drop] at h2
      rw [List.length_take] at h1 ⊢
      rw [if_neg h1.1, if_neg (by omega), if_neg (by omega), if_pos (by omega)]
      simp
end Go.Proofs.Ytjcdgofegkngpaa
