/-
  No two locks in one another's way; who waits is elder: what a grant and settling keep. Conditions: none beyond each law's own.
-/
import Derived.Test.YtggnajpokhaaiaaLkU
namespace Go.Proofs.Ytggnajpokhaaiaa
set_option linter.unusedVariables false
set_option linter.unusedSimpArgs false
theorem mem_put {m : List rowT} {t : Nat} {x : LockD} {s : rowT} : s ∈ putR m t x ↔ (s ∈ m ∧ s.xtxn ≠ t) ∨ s = rowT.mk t (Ll.mk (old m t ++ [x])) false zl := by
  unfold putR
  rw [List.mem_append, List.mem_cons, List.mem_filter, List.mem_filter]
  constructor
  · rintro (⟨h, h2⟩ | h | ⟨h, h2⟩)
    · exact .inl ⟨h, Nat.ne_of_lt (of_decide_eq_true h2)⟩
    · exact .inr h
    · exact .inl ⟨h, Nat.ne_of_gt (of_decide_eq_true h2)⟩
  · rintro (⟨h, h2⟩ | h)
    · rcases Nat.lt_or_gt_of_ne h2 with c | c
      · exact .inl ⟨h, decide_eq_true c⟩
      · exact .inr (.inr ⟨h, decide_eq_true c⟩)
    · exact .inr (.inl h)
theorem lt_tri (a b : List UInt8) : a < b ∨ a = b ∨ b < a := by
  by_cases h : a < b
  · exact .inl h
  · by_cases h2 : b < a
    · exact .inr (.inr h2)
    · exact .inr (.inl (List.le_antisymm (List.not_lt.1 h2) (List.not_lt.1 h)))
theorem maxL_comm (a b : List UInt8) : maxL a b = maxL b a := by
  unfold maxL
  rcases lt_tri a b with h | h | h
  · have h2 : ¬ b < a := List.lt_asymm h
    simp [h, h2]
  · rw [h]
  · have h2 : ¬ a < b := List.lt_asymm h
    simp [h, h2]
theorem lesser_comm (a b : List UInt8) : span_lesserHi a b = span_lesserHi b a := by
  unfold span_lesserHi
  by_cases ha : a = []
  · by_cases hb : b = []
    · rw [ha, hb]
    · rw [if_pos ha, if_neg hb, if_neg (by rw [ha]; exact fun h => h rfl)]
  · by_cases hb : b = []
    · rw [if_neg ha, if_pos hb, if_neg (by rw [hb]; exact fun h => h rfl)]
    · rw [if_neg ha, if_neg hb, if_pos hb, if_pos ha]
      rcases lt_tri a b with h | h | h
      · rw [if_neg (List.lt_asymm h), if_pos h]
      · rw [h]
      · rw [if_pos h, if_neg (List.lt_asymm h)]
theorem meet_comm (a b : RangeD) : (span_Meet a b).2 = (span_Meet b a).2 := by
  unfold span_Meet
  simp only [bnd_eq]
  by_cases ha : span_Check a = 0
  · by_cases hb : span_Check b = 0
    · rw [if_pos ha, if_pos hb, if_pos hb, if_pos ha, maxL_comm a.xLo, lesser_comm a.xHi]
    · rw [if_pos ha, if_neg hb, if_neg hb]
  · by_cases hb : span_Check b = 0
    · rw [if_neg ha, if_pos hb, if_neg ha]
    · rw [if_neg ha, if_neg hb]
theorem clash_comm (x y : LockD) : clash x y = clash y x := by unfold clash; rw [meet_comm, Bool.or_comm]
/-- no two that are held are in one another's way; who waits is elder than who holds what is in its way -/
structure Apart (m : List rowT) : Prop where
  held : ∀ r ∈ m, ∀ s ∈ m, r.xtxn ≠ s.xtxn → ∀ x ∈ r.xheld.ls, ∀ y ∈ s.xheld.ls, clash x y = false
  eld : ∀ w ∈ m, w.xwaits = true → ∀ r ∈ m, r.xtxn ≠ w.xtxn → ∀ y ∈ r.xheld.ls, clash w.xwant y = true → w.xtxn < r.xtxn
theorem Apart.filter {m : List rowT} (h : Apart m) (p : rowT → Bool) : Apart (m.filter p) :=
  ⟨fun r hr s hs => h.held r (List.mem_filter.1 hr).1 s (List.mem_filter.1 hs).1, fun w hw hww r hr => h.eld w (List.mem_filter.1 hw).1 hww r (List.mem_filter.1 hr).1⟩
theorem no_holder {m : List rowT} {t : Nat} {x : LockD} (h : locks_Table_holders (TableT.mk (Ll.mk m)) t x = []) : ∀ s ∈ m, s.xtxn ≠ t → ∀ y ∈ s.xheld.ls, clash x y = false := fun s hs hn y hy => by
  rw [holders_told] at h
  have h2 := List.filter_eq_nil_iff.1 (List.map_eq_nil_iff.1 h) s hs
  cases hc : clash x y with
  | false => rfl
  | true => exact absurd (by unfold inw; rw [decide_eq_true hn, List.any_eq_true.2 ⟨y, hy, hc⟩]; rfl) h2
theorem apart_grant {m : List rowT} (hs : Up m) (h : Apart m) (t : Nat) (x : LockD) (hh : locks_Table_holders (TableT.mk (Ll.mk m)) t x = []) : Apart (gR m t x) := by
  have ho : ∀ y ∈ old m t, ∃ r ∈ m, r.xtxn = t ∧ y ∈ r.xheld.ls := fun y hy => by
    obtain ⟨r, hr, hy2⟩ := List.mem_flatMap.1 hy
    exact ⟨r, (List.mem_filter.1 hr).1, of_decide_eq_true (List.mem_filter.1 hr).2, hy2⟩
  have new : ∀ s ∈ m, s.xtxn ≠ t → ∀ y ∈ old m t ++ [x], ∀ z ∈ s.xheld.ls, clash y z = false := fun s hs2 hn y hy z hz => by
    rcases List.mem_append.1 hy with h1 | h1
    · obtain ⟨r, hr, e, hy2⟩ := ho y h1
      exact h.held r hr s hs2 (by rw [e]; exact fun e => hn e.symm) y hy2 z hz
    · rw [List.mem_singleton.1 h1]; exact no_holder hh s hs2 hn z hz
  refine ⟨fun r hr s hs2 hn y hy z hz => ?_, fun w hw hww r hr hn y hy hc => ?_⟩
  · rcases mem_put.1 (List.mem_filter.1 hr).1 with ⟨h1, h1t⟩ | h1
    · rcases mem_put.1 (List.mem_filter.1 hs2).1 with ⟨h2, h2t⟩ | h2
      · exact h.held r h1 s h2 hn y hy z hz
      · rw [h2] at hz; rw [clash_comm]; exact new r h1 h1t z hz y hy
    · rcases mem_put.1 (List.mem_filter.1 hs2).1 with ⟨h2, h2t⟩ | h2
      · rw [h1] at hy; exact new s h2 h2t y hy z hz
      · rw [h1, h2] at hn; exact absurd rfl hn
  · obtain ⟨hw1, hw2⟩ := List.mem_filter.1 hw
    rcases mem_put.1 hw1 with ⟨h1, h1t⟩ | h1
    · rcases mem_put.1 (List.mem_filter.1 hr).1 with ⟨h2, h2t⟩ | h2
      · exact h.eld w h1 hww r h2 hn y hy hc
      · rw [h2] at hy hn ⊢
        rcases List.mem_append.1 hy with h3 | h3
        · obtain ⟨r2, hr2, e, hy2⟩ := ho y h3
          have := h.eld w h1 hww r2 hr2 (by rw [e]; exact hn) y hy2 hc
          rw [e] at this; exact this
        · rw [List.mem_singleton.1 h3, clash_comm] at hc
          rcases Nat.lt_or_gt_of_ne h1t with c | c
          · exact c
          · exfalso
            have hd : dies t x w = true := by
              unfold dies
              unfold clash at hc
              rw [hww, decide_eq_true c, hc]; rfl
            rw [hd] at hw2; cases hw2
    · rw [h1] at hww; cases hww
/-- what settling keeps: rows apart; who died has no row; who was granted something waits no more; no new transactions -/
structure AI (S : List Nat) (m : List rowT) (g d : List Nat) : Prop where
  ap : Apart m
  dead : ∀ n ∈ d, ∀ r ∈ m, r.xtxn ≠ n
  gr : ∀ n ∈ g, ∀ r ∈ m, r.xwaits = true → r.xtxn ≠ n
  ins : ∀ r ∈ m, r.xtxn ∈ S
theorem ai_step {S : List Nat} {m : List rowT} {g d : List Nat} (hs : Up m) (h : AI S m g d) {t : Nat} (x : LockD) (ht : t ∈ S) (hd : ∀ n ∈ d, t ≠ n) (hh : locks_Table_holders (TableT.mk (Ll.mk m)) t x = []) : AI S (gR m t x) (g ++ [t]) (d ++ gD m t x) := by
  have hu := up_put hs t x
  refine ⟨apart_grant hs h.ap t x hh, fun n hn r hr => ?_, fun n hn r hr hw => ?_, fun r hr => ?_⟩
  · obtain ⟨h1, h2⟩ := List.mem_filter.1 hr
    rcases List.mem_append.1 hn with h3 | h3
    · rcases mem_put.1 h1 with ⟨h4, _⟩ | h4
      · exact h.dead n h3 r h4
      · rw [h4]; exact hd n h3
    · obtain ⟨q, hq, e⟩ := List.mem_map.1 h3
      intro e2
      have := up_inj hu h1 (List.mem_filter.1 hq).1 (e2.trans e.symm)
      rw [this, (List.mem_filter.1 hq).2] at h2
      cases h2
  · rcases mem_put.1 (List.mem_filter.1 hr).1 with ⟨h4, h5⟩ | h4
    · rcases List.mem_append.1 hn with h3 | h3
      · exact h.gr n h3 r h4 hw
      · rw [List.mem_singleton.1 h3]; exact h5
    · rw [h4] at hw; cases hw
  · rcases mem_put.1 (List.mem_filter.1 hr).1 with ⟨h4, _⟩ | h4
    · exact h.ins r h4
    · rw [h4]; exact ht
theorem ai_settle {S : List Nat} {m : List rowT} {g d : List Nat} (hf : Fit m) (h : AI S m g d) : AI S (locks_Table_settle_L0 (Wt m + 1) m g d).1 (locks_Table_settle_L0 (Wt m + 1) m g d).2.1 (locks_Table_settle_L0 (Wt m + 1) m g d).2.2 :=
  (settle_ind (I := AI S) (fun l g' d' r hf hI hr hw hh => ai_step hf.up hI r.xwant (hI.ins r hr) (fun n hn => hI.dead n hn r hr) hh) (Wt m + 1) m g d (by omega) hf h).1
end Go.Proofs.Ytggnajpokhaaiaa
