/-
  No two locks in one another's way; who waits is elder: what a grant and settling keep. Conditions: none beyond each law's own.
-/
import Derived.Test.YtggnajpokhaaiaaLkC
namespace Go.Proofs.Ytggnajpokhaaiaa
set_option linter.unusedVariables false
set_option linter.unusedSimpArgs false
def Still (m : List rowT) : Prop := ∀ r ∈ m, r.xwaits = true → locks_Table_holders (TableT.mk (Ll.mk m)) r.xtxn r.xwant ≠ []
structure EJ (m : List rowT) : Prop where
  snd : Sound m
  still : Still m
end Go.Proofs.Ytggnajpokhaaiaa
namespace Go.Proofs.Ytggnajpokhaaiaa
set_option linter.unusedVariables false
set_option linter.unusedSimpArgs false
theorem mem_put {m : List rowT} {t : Nat} {x : LockD} {s : rowT} : s ∈ putR m t x ↔ (s ∈ m ∧ s.xtxn ≠ t) ∨ s = rowT.mk t (Ll.mk (old m t ++ [x])) false zl := by
  unfold putR
  rw [List.mem_append, List.mem_cons, List.mem_filter, List.mem_filter]
  constructor
  · rintro (⟨h, h2⟩ | h | ⟨h, h2⟩)
    · exact .inl ⟨h, Nat.ne_of_lt (of_decide_eq_true h2)⟩
    · exact .inr h
    · exact .inl ⟨h, Nat.ne_of_gt (of_decide_eq_true h2)⟩
  · rintro (⟨h, h2⟩ | h)
    · rcases Nat.lt_or_gt_of_ne h2 with c | c
      · exact .inl ⟨h, decide_eq_true c⟩
      · exact .inr (.inr ⟨h, decide_eq_true c⟩)
    · exact .inr (.inl h)
theorem lt_tri (a b : List UInt8) : a < b ∨ a = b ∨ b < a := by
  by_cases h : a < b
  · exact .inl h
  · by_cases h2 : b < a
    · exact .inr (.inr h2)
    · exact .inr (.inl (List.le_antisymm (List.not_lt.1 h2) (List.not_lt.1 h)))
theorem maxL_comm (a b : List UInt8) : maxL a b = maxL b a := by
  unfold maxL
  rcases lt_tri a b with h | h | h
  · have h2 : ¬ b < a := List.lt_asymm h
    simp [h, h2]
  · rw [h]
  · have h2 : ¬ a < b := List.lt_asymm h
    simp [h, h2]
theorem lesser_comm (a b : List UInt8) : span_lesserHi a b = span_lesserHi b a := by
  unfold span_lesserHi
  by_cases ha : a = []
  · by_cases hb : b = []
    · rw [ha, hb]
    · rw [if_pos ha, if_neg hb, if_neg (by rw [ha]; exact fun h => h rfl)]
  · by_cases hb : b = []
    · rw [if_neg ha, if_pos hb, if_neg (by rw [hb]; exact fun h => h rfl)]
    · rw [if_neg ha, if_neg hb, if_pos hb, if_pos ha]
      rcases lt_tri a b with h | h | h
      · rw [if_neg (List.lt_asymm h), if_pos h]
      · rw [h]
      · rw [if_pos h, if_neg (List.lt_asymm h)]
theorem meet_comm (a b : RangeD) : (span_Meet a b).2 = (span_Meet b a).2 := by
  unfold span_Meet
  simp only [bnd_eq]
  by_cases ha : span_Check a = 0
  · by_cases hb : span_Check b = 0
    · rw [if_pos ha, if_pos hb, if_pos hb, if_pos ha, maxL_comm a.xLo, lesser_comm a.xHi]
    · rw [if_pos ha, if_neg hb, if_neg hb]
  · by_cases hb : span_Check b = 0
    · rw [if_neg ha, if_pos hb, if_neg ha]
    · rw [if_neg ha, if_neg hb]
theorem clash_comm (x y : LockD) : clash x y = clash y x := by unfold clash; rw [meet_comm, Bool.or_comm]
structure Apart (m : List rowT) : Prop where
  held : ∀ r ∈ m, ∀ s ∈ m, r.xtxn ≠ s.xtxn → ∀ x ∈ r.xheld.ls, ∀ y ∈ s.xheld.ls, clash x y = false
  eld : ∀ w ∈ m, w.xwaits = true → ∀ r ∈ m, r.xtxn ≠ w.xtxn → ∀ y ∈ r.xheld.ls, clash w.xwant y = true → w.xtxn < r.xtxn
theorem Apart.filter {m : List rowT} (h : Apart m) (p : rowT → Bool) : Apart (m.filter p) :=
  ⟨fun r hr s hs => h.held r (List.mem_filter.1 hr).1 s (List.mem_filter.1 hs).1, fun w hw hww r hr => h.eld w (List.mem_filter.1 hw).1 hww r (List.mem_filter.1 hr).1⟩
structure AI (S : List Nat) (m : List rowT) (g d : List Nat) : Prop where
  ap : Apart m
  dead : ∀ n ∈ d, ∀ r ∈ m, r.xtxn ≠ n
  gr : ∀ n ∈ g, ∀ r ∈ m, r.xwaits = true → r.xtxn ≠ n
  ins : ∀ r ∈ m, r.xtxn ∈ S
end Go.Proofs.Ytggnajpokhaaiaa
