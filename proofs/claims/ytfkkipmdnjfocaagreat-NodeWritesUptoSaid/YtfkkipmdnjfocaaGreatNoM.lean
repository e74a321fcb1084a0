/-
  Nodes that may be: their pivots rise; which kid has a key.
  Conditions: none beyond each law's own.
-/
import Derived.Test.YtfkkipmdnjfocaaGreatDw
namespace Go.Proofs.YtfkkipmdnjfocaaGreat
set_option linter.unusedVariables false
set_option linter.unusedSimpArgs false
open Go.ChangeShapes
set_option maxRecDepth 100000 in
theorem live_true : w13_live = true := by decide +kernel
@[reducible] def Key : Type := List UInt8
theorem k_tr {a b c : Key} (h1 : a < b) (h2 : b < c) : a < c := List.lt_trans h1 h2
theorem k_nlt {a b : Key} : ¬ a < b ↔ b ≤ a := List.not_lt
theorem k_nle {a b : Key} : ¬ a ≤ b ↔ b < a := List.not_le
theorem bnd_eq {α β : Type} (x : α) (f : α → β) : bnd x f = f x := rfl
theorem l1_rise (p : stemT) : ∀ (q : List Key) (k : Nat), List.drop k p.xpivots.ls = q → node_stem_check_L1 p q k = .inl () → ∀ (i : Nat) (x y : Key), k ≤ i + 1 → p.xpivots.ls[i]? = some x → p.xpivots.ls[i + 1]? = some y → x < y
  | [], k, hd, _ => fun i x y hi _ hy => by
    have hl : p.xpivots.ls.length ≤ k := by
      have := congrArg List.length hd
      rw [List.length_drop] at this
      simp only [List.length_nil] at this
      omega
    have := (List.getElem?_eq_some_iff.1 hy).1; omega
  | z :: q, k, hd, h => fun i x y hi hx hy => by
    have hz : p.xpivots.ls[k]? = some z := by
      have e : (List.drop k p.xpivots.ls)[0]? = some z := by rw [hd]; rfl
      rwa [List.getElem?_drop, Nat.add_zero] at e
    have hd2 : List.drop (k + 1) p.xpivots.ls = q := by rw [← List.drop_drop, hd]; rfl
    rw [node_stem_check_L1] at h
    simp only [bnd_eq] at h
    by_cases h1 : span_CheckKey z = 0
    · rw [if_pos h1] at h
      by_cases h2 : ((k : Nat) : Int) > 0
      · rw [if_pos h2] at h
        by_cases hik : i + 1 = k
        · subst hik
          rw [Nat.add_sub_cancel, getD_of hx] at h
          rw [hz] at hy; cases hy
          by_cases h3 : z ≤ x
          · rw [if_pos h3] at h; cases h
          · exact k_nle.1 h3
        · by_cases h3 : z ≤ List.getD p.xpivots.ls (k - 1) default
          · rw [if_pos h3] at h; cases h
          · rw [if_neg h3] at h
            exact l1_rise p q (k + 1) hd2 h i x y (by omega) hx hy
      · rw [if_neg h2] at h
        exact l1_rise p q (k + 1) hd2 h i x y (by omega) hx hy
    · rw [if_neg h1] at h; cases h
theorem lp_inl {ρ : Type} {x : Unit ⊕ ρ} {f : Unit → ρ} {P : ρ → Prop} (h : P (lp x f)) (hx : ∀ r, x = .inr r → ¬ P r) : x = .inl () := by
  cases x with
  | inl u => rfl
  | inr r => exact absurd h (hx r rfl)
theorem l1_bad (p : stemT) : ∀ (q : List Key) (k : Nat) (r : Int), node_stem_check_L1 p q k = .inr r → ¬ r = 0
  | [], k, r, h => by cases h
  | z :: q, k, r, h => by
    rw [node_stem_check_L1] at h
    simp only [bnd_eq] at h
    split at h
    · split at h
      · split at h
        · cases h; decide
        · exact l1_bad p q _ r h
      · exact l1_bad p q _ r h
    · cases h; decide
theorem l0_bad (p : stemT) : ∀ (q : List Int) (r : Int), node_stem_check_L0 p q = .inr r → ¬ r = 0
  | [], r, h => by cases h
  | z :: q, r, h => by
    rw [node_stem_check_L0] at h
    split at h
    · cases h; decide
    · split at h
      · cases h; decide
      · exact l0_bad p q r h
/-- What a stem that may be has. -/
theorem stem_ok {p : stemT} (h : node_stem_check p = 0) : 2 ≤ p.xkids.ls.length ∧ p.xpivots.ls.length + 1 = p.xkids.ls.length ∧ ∀ (i : Nat) (x y : Key), p.xpivots.ls[i]? = some x → p.xpivots.ls[i + 1]? = some y → x < y := by
  unfold node_stem_check at h
  by_cases h1 : ((List.length p.xkids.ls : Nat) : Int) < 2
  · rw [if_pos h1] at h; cases h
  rw [if_neg h1] at h
  by_cases h2 : ((List.length p.xkids.ls : Nat) : Int) > 8
  · rw [if_pos h2] at h; cases h
  rw [if_neg h2] at h
  by_cases h3 : ((List.length p.xpivots.ls : Nat) : Int) = (((List.length p.xkids.ls) - 1 : Nat) : Int)
  · rw [if_pos h3] at h
    by_cases h4 : ((List.length p.xbuffers.ls : Nat) : Int) = ((List.length p.xkids.ls : Nat) : Int)
    · rw [if_pos h4] at h
      have e0 := lp_inl (P := fun r => r = 0) h (l0_bad p _)
      rw [e0] at h
      have e1 := lp_inl (P := fun r => r = 0) (show lp (node_stem_check_L1 p p.xpivots.ls 0) _ = 0 from h) (l1_bad p _ _)
      exact ⟨by omega, by omega, fun i x y hx hy => l1_rise p _ 0 rfl e1 i x y (by omega) hx hy⟩
    · rw [if_neg h4] at h; cases h
  · rw [if_neg h3] at h; cases h
theorem rise_pw : ∀ {l : List Key}, (∀ (i : Nat) (x y : Key), l[i]? = some x → l[i + 1]? = some y → x < y) → l.Pairwise (· < ·)
  | [], _ => .nil
  | x :: q, h => by
    have hq := rise_pw (l := q) fun i a b ha hb => h (i + 1) a b ha hb
    refine List.Pairwise.cons (fun y hy => ?_) hq
    cases q with
    | nil => cases hy
    | cons z q =>
      have hz := h 0 x z rfl rfl
      rcases List.mem_cons.1 hy with rfl | hy
      · exact hz
      · exact k_tr hz ((List.pairwise_cons.1 hq).1 y hy)
theorem child_L (k : Key) : ∀ (l : List Key) (n : Nat), l.Pairwise (· < ·) → ∃ c, c ≤ l.length ∧ node_Child_L0 k l n = n + c ∧ ∀ (i : Nat) (x : Key), l[i]? = some x → (x ≤ k ↔ i < c)
  | [], n, _ => ⟨0, Nat.le_refl _, rfl, fun i x hx => by simp at hx⟩
  | y :: q, n, h => by
    have hp := List.pairwise_cons.1 h
    rw [node_Child_L0]
    by_cases hk : y ≤ k
    · obtain ⟨c, h1, h2, h3⟩ := child_L k q (n + 1) hp.2
      refine ⟨c + 1, by simp only [List.length_cons]; omega, by rw [if_pos hk, h2]; omega, fun i x hx => ?_⟩
      cases i with
      | zero => simp only [List.getElem?_cons_zero, Option.some.injEq] at hx; subst hx; exact ⟨fun _ => by omega, fun _ => hk⟩
      | succ i => rw [h3 i x hx]; omega
    · obtain ⟨c, h1, h2, h3⟩ := child_L k q n hp.2
      have hc : c = 0 := by
        cases q with
        | nil => simpa using h1
        | cons z q =>
          have hz := hp.1 z (.head _)
          have hzk : ¬ z ≤ k := fun e => k_nle.1 hk |> fun e2 => k_nlt.2 e (k_tr e2 hz)
          have := h3 0 z rfl
          rcases Nat.eq_zero_or_pos c with e | e
          · exact e
          · exact absurd (this.2 e) hzk
      subst hc
      refine ⟨0, Nat.zero_le _, by rw [if_neg hk, h2], fun i x hx => ?_⟩
      cases i with
      | zero => simp only [List.getElem?_cons_zero, Option.some.injEq] at hx; subst hx; exact ⟨fun e => absurd e hk, fun e => by omega⟩
      | succ i => rw [h3 i x hx]; omega
end Go.Proofs.YtfkkipmdnjfocaaGreat
