/-
  What was asked alone is left out: the law's value.
  Conditions: none.
-/
import Derived.Test.YtjcdgofegkngpaaJuL
import Derived.Test.YtjcdgofegkngpaaJForgets
namespace Go.Proofs.Ytjcdgofegkngpaa
set_option linter.unusedVariables false
set_option linter.unusedSimpArgs false
open Go.RowKit
theorem jkey_iff {x y : SeenT} : jkey y = jkey x ↔ y.xClient = x.xClient ∧ ((y.xReq : Nat) : Int) = ((x.xReq : Nat) : Int) := by
  unfold jkey
  constructor
  · intro h
    injection h with h1 h2
    exact ⟨h1, by rw [h2]⟩
  · intro h
    rw [h.1, Int.ofNat.inj h.2]
theorem fg_ex {x y : SeenT} {k j : Nat} {q : List SeenT} : (∃ (i : Nat) (z : SeenT), (y :: q)[i]? = some z ∧ j + i ≠ k ∧ jkey z = jkey x) ↔ (j ≠ k ∧ jkey y = jkey x) ∨ ∃ (i : Nat) (z : SeenT), q[i]? = some z ∧ j + 1 + i ≠ k ∧ jkey z = jkey x := by
  constructor
  · rintro ⟨i, z, h1, h2, h3⟩
    cases i with
    | zero =>
      simp only [List.getElem?_cons_zero, Option.some.injEq] at h1
      subst h1
      exact .inl ⟨by omega, h3⟩
    | succ i =>
      simp only [List.getElem?_cons_succ] at h1
      exact .inr ⟨i, z, h1, by omega, h3⟩
  · rintro (⟨h1, h2⟩ | ⟨i, z, h1, h2, h3⟩)
    · exact ⟨0, y, rfl, by omega, h2⟩
    · exact ⟨i + 1, z, by simpa using h1, by omega, h3⟩
theorem fg_L1 (x : SeenT) (out : List SeenT) (k : Nat) : ∀ (q : List SeenT) (b : Bool) (j : Nat), w23_JudgeForgets_L1 x out k q b j = true ↔ (b = true ∨ ∃ (i : Nat) (z : SeenT), q[i]? = some z ∧ j + i ≠ k ∧ jkey z = jkey x)
  | [], b, j => by
    show b = true ↔ _
    constructor
    · intro h; exact .inl h
    · rintro (h | ⟨i, z, h, _⟩)
      · exact h
      · simp at h
  | y :: q, b, j => by
    rw [fg_ex]
    unfold w23_JudgeForgets_L1
    by_cases hb : b = true
    · rw [if_pos hb, fg_L1 x out k q true (j + 1)]
      simp [hb]
    · rw [if_neg hb]
      by_cases hj : ((j : Nat) : Int) = ((k : Nat) : Int)
      · rw [if_pos hj, fg_L1 x out k q false (j + 1)]
        have : j = k := by omega
        simp [hb, this]
      · rw [if_neg hj]
        have hne : j ≠ k := by omega
        by_cases hc : y.xClient = x.xClient
        · rw [if_pos hc, fg_L1 x out k q _ (j + 1), decide_eq_true_iff]
          have : jkey y = jkey x ↔ ((y.xReq : Nat) : Int) = ((x.xReq : Nat) : Int) := ⟨fun h => (jkey_iff.1 h).2, fun h => jkey_iff.2 ⟨hc, h⟩⟩
          rw [this]
          simp [hb, hne]
        · rw [if_neg hc, fg_L1 x out k q false (j + 1)]
          have : ¬ jkey y = jkey x := fun h => hc (jkey_iff.1 h).1
          simp [hb, this]
/-- whose request is asked once, and nothing more is seen of it -/
def Lone (l : List SeenT) (r : requestD) : Prop := ∃ (i : Nat) (x : SeenT), l[i]? = some x ∧ x.xKind = 1 ∧ jkey x = r ∧ ∀ (j : Nat) (y : SeenT), l[j]? = some y → j ≠ i → jkey y ≠ r
theorem fg_L0 (l : List SeenT) (b : Bool) : ∀ (q pre out : List SeenT), l = pre ++ q → ∃ o, w23_JudgeForgets_L0 l b q out pre.length = out ++ o ∧ Kept (Lone l) q o
  | [], pre, out, h => ⟨[], by simp [w23_JudgeForgets_L0], .nil⟩
  | x :: q, pre, out, h => by
    have hx : l[pre.length]? = some x := by rw [h, List.getElem?_append_right (Nat.le_refl _), Nat.sub_self]; rfl
    have hn : l = (pre ++ [x]) ++ q := by rw [h]; simp
    have hl : (pre ++ [x]).length = pre.length + 1 := by simp
    unfold w23_JudgeForgets_L0
    simp only [bnd_eq]
    have hm := fg_L1 x out pre.length l (decide (¬ (x.xKind = 1))) 0
    by_cases hc : w23_JudgeForgets_L1 x out pre.length l (decide (¬ (x.xKind = 1))) 0 = true
    · rw [if_pos hc]
      obtain ⟨o, h1, h2⟩ := fg_L0 l b q (pre ++ [x]) (out ++ [x]) hn
      rw [hl] at h1
      refine ⟨x :: o, ?_, .keep ?_ h2⟩
      · show w23_JudgeForgets_L0 l b q (out ++ [x]) (pre.length + 1) = _
        rw [h1]; simp
      · rintro ⟨i, y, g1, g2, g3, g4⟩
        have hi : i = pre.length := Classical.byContradiction fun e => g4 _ _ hx (fun q => e q.symm) rfl
        subst hi
        rw [hx] at g1
        have := Option.some.inj g1
        subst this
        rcases hm.1 hc with h' | ⟨i, z, a1, a2, a3⟩
        · simp [g2] at h'
        · exact g4 i z a1 (by omega) a3
    · rw [if_neg hc]
      have hno : ¬ (decide (¬ (x.xKind = 1)) = true ∨ ∃ (i : Nat) (z : SeenT), l[i]? = some z ∧ 0 + i ≠ pre.length ∧ jkey z = jkey x) := fun h' => hc (hm.2 h')
      obtain ⟨o, h1, h2⟩ := fg_L0 l b q (pre ++ [x]) out hn
      rw [hl] at h1
      have hk : x.xKind = 1 := Classical.byContradiction fun e => hno (.inl (by simp [e]))
      refine ⟨o, h1, .drop ⟨pre.length, x, hx, hk, rfl, fun j y g1 g2 g3 => hno (.inr ⟨j, y, g1, by omega, g3⟩)⟩ hk h2⟩
theorem T_JudgeForgets (l : List SeenT) : w23_JudgeForgets l = true := by
  unfold w23_JudgeForgets
  simp only [bnd_eq, live_true, if_true]
  by_cases hl : ((List.length l : Nat) : Int) > 100
  · rw [if_pos hl]
  rw [if_neg hl]
  obtain ⟨o, h1, h2⟩ := fg_L0 l true l [] [] rfl
  have h3 : w23_JudgeForgets_L0 l true l [] 0 = o := by rw [show (0 : Nat) = ([] : List SeenT).length from rfl, h1]; rfl
  rw [h3, replay_eq, replay_eq]
  cases h : jrun l [] [] with
  | inr r =>
    obtain ⟨i, e⟩ := r
    simp only
    rw [if_neg (jrun_err h).1]
  | inl t =>
    obtain ⟨u, hu⟩ := h2.run (m' := []) (fun _ _ => rfl) h
    rw [hu]
    simp [sm_refl]
end Go.Proofs.Ytjcdgofegkngpaa
