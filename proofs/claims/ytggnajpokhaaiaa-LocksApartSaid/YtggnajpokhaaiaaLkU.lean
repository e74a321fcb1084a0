/-
  Tables in which nobody waits in vain.
  Conditions: none beyond each law's own.
-/
import Derived.Test.YtggnajpokhaaiaaLkT
namespace Go.Proofs.Ytggnajpokhaaiaa
set_option linter.unusedVariables false
set_option linter.unusedSimpArgs false
/-- who waits can't be granted -/
def Still (m : List rowT) : Prop := ∀ r ∈ m, r.xwaits = true → locks_Table_holders (TableT.mk (Ll.mk m)) r.xtxn r.xwant ≠ []
theorem next_still {m : List rowT} (h : (locks_Table_next (TableT.mk (Ll.mk m))).2 = false) : Still m := by
  have go : ∀ l : List rowT, (lp (locks_Table_next_L0 (TableT.mk (Ll.mk m)) l) (fun _ => (AskD.mk 0 (LockD.mk (RangeD.mk ([]) ([])) false), false))).2 = false → ∀ r ∈ l, r.xwaits = true → locks_Table_holders (TableT.mk (Ll.mk m)) r.xtxn r.xwant ≠ [] := by
    intro l
    induction l with
    | nil => intro _ r hr; cases hr
    | cons a l ih =>
      intro h r hr hw
      rw [locks_Table_next_L0] at h
      by_cases c : a.xwaits = true
      · rw [if_pos c, bnd_eq] at h
        by_cases c2 : (((locks_Table_holders (TableT.mk (Ll.mk m)) a.xtxn a.xwant).length : Nat) : Int) = 0
        · rw [if_pos c2] at h; exact Bool.noConfusion (show true = false from h)
        · rw [if_neg c2] at h
          rcases List.mem_cons.1 hr with e | e
          · rw [e]; intro e2; exact c2 (by rw [e2]; rfl)
          · exact ih h r e hw
      · rw [if_neg c] at h
        rcases List.mem_cons.1 hr with e | e
        · exact absurd (e ▸ hw) c
        · exact ih h r e hw
  exact go m h
structure EJ (m : List rowT) : Prop where
  snd : Sound m
  still : Still m
theorem ej_settle {m : List rowT} (hf : Fit m) (hn : Ne m) (ht : Tot m ≤ 192) (g d : List Nat) : EJ (locks_Table_settle_L0 (Wt m + 1) m g d).1 :=
  ⟨settle_sound hf hn ht g d, next_still (settle_ind (I := fun _ _ _ => True) (fun _ _ _ _ _ _ _ _ _ => trivial) (Wt m + 1) m g d (by omega) hf trivial).2.2⟩
theorem ej_release {m : List rowT} (h : Sound m) (t : Nat) : EJ (locks_Table_Release (TableT.mk (Ll.mk m)) t).2.2.xrows.ls := by
  have e : (locks_Table_Release (TableT.mk (Ll.mk m)) t).2.2.xrows.ls = (locks_Table_settle_L0 (Wt (but t m) + 1) (but t m) [] []).1 := by
    unfold locks_Table_Release
    rw [bnd_eq, bnd_eq, drop_told h.up, settle_told]
  rw [e]
  exact ej_settle (h.fit.filter _) (ne_filter h.ne _) (Nat.le_trans (sum_filter _ _) h.tot) _ _
/-- holders by what lies on the rows alone: a row that holds something -/
theorem holders_some {m : List rowT} {t : Nat} {x : LockD} (h : locks_Table_holders (TableT.mk (Ll.mk m)) t x ≠ []) : ∃ r ∈ m, r.xtxn ≠ t ∧ ∃ y ∈ r.xheld.ls, clash x y = true := by
  rw [holders_told] at h
  obtain ⟨r, hr⟩ : ∃ r, r ∈ m.filter (inw t x) := by
    cases e : m.filter (inw t x) with
    | nil => rw [e] at h; exact absurd rfl h
    | cons a l => exact ⟨a, .head _⟩
  obtain ⟨h1, h2⟩ := List.mem_filter.1 hr
  unfold inw at h2
  rw [Bool.and_eq_true] at h2
  obtain ⟨y, hy, hc⟩ := List.any_eq_true.1 h2.2
  exact ⟨r, h1, of_decide_eq_true h2.1, y, hy, hc⟩
theorem old_mem {m : List rowT} (hs : Up m) {r : rowT} (hr : r ∈ m) : old m r.xtxn = r.xheld.ls := by
  rw [← Holds_told hs]
  unfold locks_Table_Holds
  rw [bnd_eq]
  rcases find_two hs r.xtxn with ⟨a, p, q, rfl, hp, ha, hq, hf⟩ | ⟨a, q, rfl, ha, hq, hf⟩
  · rw [hf, if_pos rfl, bnd_eq]
    simp only [Int.toNat_natCast, gd]
    rw [up_inj hs (by simp) hr hp]
  · rcases List.mem_append.1 hr with h | h
    · exact absurd (ha r h) (Nat.lt_irrefl _)
    · exact absurd (hq r h) (Nat.lt_irrefl _)
/-- a release takes a row away -/
theorem settle_rows {m : List rowT} (hf : Fit m) (g d : List Nat) : List.length (locks_Table_settle_L0 (Wt m + 1) m g d).1 ≤ List.length m :=
  (settle_ind (I := fun l _ _ => List.length l ≤ List.length m) (fun l g' d' r hf hI hr hw _ => by
    obtain ⟨h1, _, _⟩ := put_wait hf.up hr hw r.xwant
    exact Nat.le_trans (List.length_filter_le _ _) (by rw [h1]; exact hI)) (Wt m + 1) m g d (by omega) hf (Nat.le_refl _)).1
theorem release_rows {m : List rowT} (h : Sound m) {r : rowT} (hr : r ∈ m) : List.length (locks_Table_Release (TableT.mk (Ll.mk m)) r.xtxn).2.2.xrows.ls + 1 ≤ List.length m := by
  have e : (locks_Table_Release (TableT.mk (Ll.mk m)) r.xtxn).2.2.xrows.ls = (locks_Table_settle_L0 (Wt (but r.xtxn m) + 1) (but r.xtxn m) [] []).1 := by
    unfold locks_Table_Release
    rw [bnd_eq, bnd_eq, drop_told h.up, settle_told]
  rw [e]
  have h1 := settle_rows (h.fit.filter fun s => decide (s.xtxn ≠ r.xtxn)) [] []
  have h2 := flen (fun s => decide (s.xtxn ≠ r.xtxn)) m
  have h3 : 1 ≤ List.length (m.filter fun s => !decide (s.xtxn ≠ r.xtxn)) := List.length_pos_of_mem (List.mem_filter.2 ⟨hr, by simp⟩)
  unfold but
  omega
theorem inw_same {u t : Nat} {y x : LockD} {p : rowT} (hp : p.xtxn = t) : inw u y (rowT.mk t (Ll.mk p.xheld.ls) true x) = inw u y p := by unfold inw; rw [← hp]
theorem holders_wait {m : List rowT} (hs : Up m) (t : Nat) (x : LockD) (u : Nat) (y : LockD) : locks_Table_holders (TableT.mk (Ll.mk (waitR m t x))) u y = locks_Table_holders (TableT.mk (Ll.mk m)) u y := by
  rw [holders_told, holders_told]
  rcases find_two hs t with ⟨a, p, q, rfl, hp, ha, hq, hf⟩ | ⟨a, q, rfl, ha, hq, hf⟩
  · rw [wait_a x hp ha hq, List.filter_append, List.filter_append]
    cases h : inw u y p with
    | true => rw [List.filter_cons_of_pos ((inw_same hp).trans h), List.filter_cons_of_pos h]; simp [hp]
    | false => rw [List.filter_cons_of_neg (by rw [inw_same hp, h]; decide), List.filter_cons_of_neg (by rw [h]; decide)]
  · rw [wait_b x ha hq, List.filter_append, List.filter_append, List.filter_cons_of_neg (by unfold inw; simp)]
theorem ej_ask {m : List rowT} (h : EJ m) (t : Nat) (x : LockD) : EJ (askM m t x).2.2.2.2 := by
  have hs := askM_sound h.snd t x
  refine ⟨hs, ?_⟩
  unfold askM at hs ⊢
  by_cases c1 : span_Check x.xRange = 0
  · rw [if_pos c1] at hs ⊢
    by_cases c2 : locks_Table_waiting (TableT.mk (Ll.mk m)) t = true
    · rw [if_pos c2]; exact h.still
    · rw [if_neg c2] at hs ⊢
      by_cases c3 : locks_Table_has (TableT.mk (Ll.mk m)) t x = true
      · rw [if_pos c3]; exact h.still
      · rw [if_neg c3] at hs ⊢
        by_cases c4 : 192 ≤ Tot m
        · rw [if_pos c4]; exact h.still
        · rw [if_neg c4] at hs ⊢
          by_cases c5 : locks_Table_holders (TableT.mk (Ll.mk m)) t x = []
          · rw [if_pos c5]
            obtain ⟨h2, h3⟩ := put_tot m h.snd.up t x
            have h4 := putR_len m h.snd.up t x
            have h5 := h.snd.len
            have h7 := List.length_filter_le (fun r => !dies t x r) (putR m t x)
            have h9 : List.length (gR m t x) = List.length ((putR m t x).filter fun r => !dies t x r) := rfl
            have h10 : Tot (gR m t x) ≤ Tot (putR m t x) := sum_filter _ _
            have hf : Fit (gR m t x) := ⟨(up_put h.snd.up t x).filter _, show List.length (gR m t x) ≤ 999999 by omega, show Tot (gR m t x) ≤ 1000000 by omega⟩
            exact (ej_settle hf (ne_filter (ne_put h.snd.up h.snd.ne t x) _) (by show Tot (gR m t x) ≤ 192; omega) [] (gD m t x)).still
          · rw [if_neg c5] at hs ⊢
            by_cases c6 : List.getD (locks_Table_holders (TableT.mk (Ll.mk m)) t x) 0 default < t
            · rw [if_pos c6]; exact h.still
            · rw [if_neg c6]
              intro r hr hw
              rw [holders_wait h.snd.up]
              unfold waitR at hr
              rcases List.mem_append.1 hr with h1 | h1
              · exact h.still r (List.mem_filter.1 h1).1 hw
              · rcases List.mem_cons.1 h1 with h2 | h2
                · rw [h2]; exact c5
                · exact h.still r (List.mem_filter.1 h2).1 hw
  · rw [if_neg c1]; exact h.still
end Go.Proofs.Ytggnajpokhaaiaa
