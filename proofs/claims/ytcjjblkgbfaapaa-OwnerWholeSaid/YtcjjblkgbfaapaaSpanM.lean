/-
  The mathematics of ranges of keys: lists of bytes in their order.
  Conditions: none.
-/
import Derived.Lib.Hide
namespace Go.Proofs.Ytcjjblkgbfaapaa.M
set_option linter.unusedVariables false
set_option linter.unusedSimpArgs false
abbrev L := List UInt8
def K (k : L) : Prop := 1 ≤ k.length ∧ k.length ≤ 12
def R (l h : L) : Prop := (l = [] ∨ K l) ∧ (h = [] ∨ (K h ∧ l < h))
def B (k h : L) : Prop := h = [] ∨ k < h
def H (l h k : L) : Prop := R l h ∧ K k ∧ l ≤ k ∧ B k h
def mx (a b : L) : L := if a < b then b else a
def ls (a b : L) : L := if a = [] then b else if b = [] then a else if b < a then b else a
def M (l1 h1 l2 h2 : L) : Prop := R l1 h1 ∧ R l2 h2 ∧ B (mx l1 l2) (ls h1 h2)
theorem nil_le (a : L) : [] ≤ a := List.nil_le a
theorem not_lt_nil (a : L) : ¬ a < [] := List.not_lt_nil a
theorem nil_lt {a : L} (h : a ≠ []) : [] < a := by
  cases a with
  | nil => exact absurd rfl h
  | cons x xs => exact List.nil_lt_cons x xs
theorem K_ne {k : L} (h : K k) : k ≠ [] := by rintro rfl; simp [K] at h
theorem B_ls (k a b : L) : B k (ls a b) ↔ B k a ∧ B k b := by
  have := not_lt_nil k
  unfold B ls; grind
theorem le_mx (k a b : L) : mx a b ≤ k ↔ a ≤ k ∧ b ≤ k := by unfold mx; grind
theorem R_meet {l1 h1 l2 h2 : L} (h : M l1 h1 l2 h2) : R (mx l1 l2) (ls h1 h2) := by
  obtain ⟨⟨a1, a2⟩, ⟨b1, b2⟩, c⟩ := h
  refine ⟨?_, ?_⟩
  · unfold mx; split <;> assumption
  · rcases c with c | c
    · exact .inl c
    · by_cases e : ls h1 h2 = []
      · exact .inl e
      · refine .inr ⟨?_, c⟩
        unfold ls at e ⊢
        grind
theorem both (l1 h1 l2 h2 k : L) : (H l1 h1 k ∧ H l2 h2 k) ↔ (M l1 h1 l2 h2 ∧ H (mx l1 l2) (ls h1 h2) k) := by
  constructor
  · rintro ⟨⟨r1, k1, a1, b1⟩, ⟨r2, _, a2, b2⟩⟩
    have hb := (B_ls k h1 h2).2 ⟨b1, b2⟩
    have ha := (le_mx k l1 l2).2 ⟨a1, a2⟩
    have hm : M l1 h1 l2 h2 := ⟨r1, r2, by
      rcases hb with hb | hb
      · exact .inl hb
      · exact .inr (List.lt_of_le_of_lt ha hb)⟩
    exact ⟨hm, R_meet hm, k1, ha, hb⟩
  · rintro ⟨⟨r1, r2, _⟩, _, k1, a, b⟩
    have hb := (B_ls k h1 h2).1 b
    have ha := (le_mx k l1 l2).1 a
    exact ⟨⟨r1, k1, ha.1, hb.1⟩, ⟨r2, k1, ha.2, hb.2⟩⟩
theorem mx_assoc (a b c : L) : mx (mx a b) c = mx a (mx b c) := by unfold mx; grind
theorem ls_assoc (a b c : L) : ls (ls a b) c = ls a (ls b c) := by unfold ls; grind
theorem parts {a b c d e f : L} (h1 : M a b c d) (h2 : M c d e f) : (M (mx a c) (ls b d) e f ↔ M a b (mx c e) (ls d f)) := by
  have r1 := R_meet h1
  have r2 := R_meet h2
  unfold M
  rw [mx_assoc, ls_assoc]
  exact ⟨fun ⟨_, _, h⟩ => ⟨h1.1, r2, h⟩, fun ⟨_, _, h⟩ => ⟨r1, h2.2.1, h⟩⟩
def C (l1 h1 l2 h2 : L) : Prop := M l1 h1 l2 h2 ∧ mx l1 l2 = l2 ∧ ls h1 h2 = h2
theorem ls_eq (a b : L) : ls a b = b ↔ (a = [] ∨ (b ≠ [] ∧ b ≤ a)) := by
  have := nil_le a
  have := not_lt_nil a
  unfold ls; grind
theorem cut {l h at_ k : L} (r : R l h) (ka : K at_) (hl : l < at_) (hb : B at_ h) : (H l h k ↔ (H l at_ k ∨ H at_ h k)) ∧ ¬ (H l at_ k ∧ H at_ h k) := by
  have r1 : R l at_ := ⟨r.1, .inr ⟨ka, hl⟩⟩
  have r2 : R at_ h := ⟨.inr ka, by
    rcases r.2 with e | ⟨e, _⟩
    · exact .inl e
    · rcases hb with e' | e'
      · exact .inl e'
      · exact .inr ⟨e, e'⟩⟩
  have hne := K_ne ka
  unfold H B at *
  refine ⟨⟨?_, ?_⟩, ?_⟩
  · rintro ⟨_, kk, a, b⟩
    by_cases hk : k < at_
    · exact .inl ⟨r1, kk, a, .inr hk⟩
    · exact .inr ⟨r2, kk, List.not_lt.1 hk, b⟩
  · rintro (⟨_, kk, a, b⟩ | ⟨_, kk, a, b⟩)
    · refine ⟨r, kk, a, ?_⟩; grind
    · refine ⟨r, kk, ?_, b⟩; grind
  · rintro ⟨⟨_, _, _, b⟩, ⟨_, _, a, _⟩⟩; grind
end Go.Proofs.Ytcjjblkgbfaapaa.M
