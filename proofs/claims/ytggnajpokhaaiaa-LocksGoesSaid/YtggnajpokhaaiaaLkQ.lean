/-
  Tables stay such as may be. Conditions: none beyond each law's own.
-/
import Derived.Test.YtggnajpokhaaiaaLe
namespace Go.Proofs.Ytggnajpokhaaiaa
set_option linter.unusedVariables false
set_option linter.unusedSimpArgs false
theorem ne_filter {l : List rowT} (h : Ne l) (p : rowT → Bool) : Ne (l.filter p) := fun r hr => h r (List.mem_filter.1 hr).1
theorem ne_put {l : List rowT} (hs : Up l) (h : Ne l) (t : Nat) (x : LockD) : Ne (putR l t x) := by
  rcases find_two hs t with ⟨a, p, q, rfl, hp, ha, hq, _⟩ | ⟨a, q, rfl, ha, hq, _⟩
  · rw [put_a x hp ha hq]
    intro r hr
    rcases List.mem_append.1 hr with h1 | h1
    · exact h r (List.mem_append_left _ h1)
    · rcases List.mem_cons.1 h1 with h2 | h2
      · rw [h2]; simp only [List.length_append, List.length_cons]; omega
      · exact h r (List.mem_append_right _ (.tail _ h2))
  · rw [put_b x ha hq]
    intro r hr
    rcases List.mem_append.1 hr with h1 | h1
    · exact h r (List.mem_append_left _ h1)
    · rcases List.mem_cons.1 h1 with h2 | h2
      · rw [h2]; simp only [List.length_append, List.length_cons]; omega
      · exact h r (List.mem_append_right _ h2)
theorem settle_ind {I : List rowT → List Nat → List Nat → Prop}
    (step : ∀ (m : List rowT) (g d : List Nat) (r : rowT), Fit m → I m g d → r ∈ m → r.xwaits = true → locks_Table_holders (TableT.mk (Ll.mk m)) r.xtxn r.xwant = [] →
      I ((putR m r.xtxn r.xwant).filter fun s => !dies r.xtxn r.xwant s) (g ++ [r.xtxn]) (d ++ List.map (fun q : rowT => q.xtxn) ((putR m r.xtxn r.xwant).filter (dies r.xtxn r.xwant)))) :
    ∀ (q : Nat) (l : List rowT) (g d : List Nat), Wt l < q → Fit l → I l g d → I (locks_Table_settle_L0 q l g d).1 (locks_Table_settle_L0 q l g d).2.1 (locks_Table_settle_L0 q l g d).2.2 ∧ Fit (locks_Table_settle_L0 q l g d).1 ∧ (locks_Table_next (TableT.mk (Ll.mk (locks_Table_settle_L0 q l g d).1))).2 = false := by
  intro q
  induction q with
  | zero => intro l g d h; omega
  | succ q ih =>
    intro l g d hq hf hI
    rw [locks_Table_settle_L0]
    simp only [bnd_eq]
    cases hn : locks_Table_next (TableT.mk (Ll.mk l)) with
    | mk a b =>
      cases b with
      | false => simp only [Bool.false_eq_true, if_false]; exact ⟨hI, hf, by rw [hn]⟩
      | true =>
        simp only [if_true]
        obtain ⟨r, hr, hw, ht, hx, hh⟩ := next_mem hn
        have hs := settle_step hf hn (grant_told hf.up a.xTxn a.xLock (changeT.mk (Ll.mk g) (Ll.mk d)))
        rw [grant_told hf.up]
        rw [← ht, ← hx] at hs hh ⊢
        exact ih _ _ _ (Nat.lt_of_lt_of_le hs.2.1 (Nat.le_of_lt_succ hq)) hs.1 (step l g d r hf hI hr hw hh)
theorem settle_told (m : List rowT) (c : changeT) : locks_Table_settle (TableT.mk (Ll.mk m)) c =
    (TableT.mk (Ll.mk (locks_Table_settle_L0 (Wt m + 1) m c.xgranted.ls c.xdead.ls).1), changeT.mk (Ll.mk (srt (locks_Table_settle_L0 (Wt m + 1) m c.xgranted.ls c.xdead.ls).2.1)) (Ll.mk (srt (locks_Table_settle_L0 (Wt m + 1) m c.xgranted.ls c.xdead.ls).2.2))) := by
  unfold locks_Table_settle
  simp only [bnd_eq, sort_eq]
theorem settle_sound {m : List rowT} (hf : Fit m) (hn : Ne m) (ht : Tot m ≤ 192) (g d : List Nat) : Sound (locks_Table_settle_L0 (Wt m + 1) m g d).1 := by
  have h := settle_ind (I := fun l _ _ => Ne l ∧ Tot l ≤ 192) (fun m g d r hf hI hr hw _ => by
    obtain ⟨_, h2, _⟩ := put_wait hf.up hr hw r.xwant
    exact ⟨ne_filter (ne_put hf.up hI.1 _ _) _, Nat.le_trans (sum_filter _ _) (show Tot (putR m r.xtxn r.xwant) ≤ 192 by rw [h2]; exact hI.2)⟩) (Wt m + 1) m g d (by omega) hf ⟨hn, ht⟩
  exact ⟨h.2.1.up, h.1.1, h.1.2⟩
theorem release_sound {m : List rowT} (h : Sound m) {t : Nat} {g d : List Nat} {r : TableT} (hr : locks_Table_Release (TableT.mk (Ll.mk m)) t = (g, d, r)) : Sound r.xrows.ls := by
  unfold locks_Table_Release at hr
  rw [bnd_eq, bnd_eq, drop_told h.up, settle_told] at hr
  have e : r = _ := (congrArg (fun q => q.2.2) hr).symm
  rw [e]
  exact settle_sound (h.fit.filter _) (ne_filter h.ne _) (Nat.le_trans (sum_filter _ _) h.tot) _ _
theorem count_told {l : List rowT} (h : Tot l ≤ 192) : locks_Table_count (TableT.mk (Ll.mk l)) = (Tot l : Int) := by
  have go : ∀ (l : List rowT) (z : Nat), z + Tot l ≤ 192 → locks_Table_count_L0 l (z : Int) = ((z + Tot l : Nat) : Int) := by
    intro l
    induction l with
    | nil => intro z h; rfl
    | cons a l ih =>
      intro z h
      unfold Tot wt1 at h
      simp only [List.map_cons, List.sum_cons] at h
      rw [locks_Table_count_L0]
      by_cases c : a.xwaits = true
      · rw [if_pos c] at h
        rw [if_pos c, IntWalk.i64_in (IntKind.i64.wrap _ + 1) (by rw [IntWalk.i64_in _ (by omega)]; omega), IntWalk.i64_in _ (by omega), show (z : Int) + ((a.xheld.ls.length : Nat) : Int) + 1 = ((z + (a.xheld.ls.length + 1) : Nat) : Int) from by omega, ih _ (by unfold Tot wt1; omega)]
        unfold Tot wt1
        simp only [List.map_cons, List.sum_cons, if_pos c]
        omega
      · rw [if_neg c] at h
        rw [if_neg c, IntWalk.i64_in _ (by omega), show (z : Int) + ((a.xheld.ls.length : Nat) : Int) = ((z + a.xheld.ls.length : Nat) : Int) from by omega, ih _ (by unfold Tot wt1; omega)]
        unfold Tot wt1
        simp only [List.map_cons, List.sum_cons, if_neg c]
        omega
  unfold locks_Table_count
  rw [bnd_eq]
  have := go l 0 (by omega)
  rw [Nat.zero_add] at this
  exact this
def waitR (l : List rowT) (t : Nat) (x : LockD) : List rowT := (l.filter fun r => decide (r.xtxn < t)) ++ (rowT.mk t (Ll.mk (old l t)) true x :: l.filter fun r => decide (t < r.xtxn))
theorem wait_a {a q : List rowT} {p : rowT} {t : Nat} (x : LockD) (hp : p.xtxn = t) (ha : ∀ r ∈ a, r.xtxn < t) (hq : ∀ r ∈ q, t < r.xtxn) : waitR (a ++ p :: q) t x = a ++ rowT.mk t (Ll.mk p.xheld.ls) true x :: q := by
  have h := put_a x hp ha hq
  unfold putR at h
  unfold waitR
  have h1 := List.append_inj h (by
    have : (List.filter (fun r : rowT => decide (r.xtxn < t)) (a ++ p :: q)) = a := by
      rw [List.filter_append, List.filter_cons_of_neg (by simp [hp]), filt_all (fun r hr => decide_eq_true (ha r hr)), List.filter_eq_nil_iff.2 (fun r hr => by simp; have := hq r hr; omega), List.append_nil]
    rw [this])
  have h2 := List.cons.inj h1.2
  rw [h1.1, h2.2]
  have h3 : old (a ++ p :: q) t ++ [x] = p.xheld.ls ++ [x] := congrArg (fun r : rowT => r.xheld.ls) h2.1
  rw [(List.append_inj' h3 rfl).1]
theorem wait_b {a q : List rowT} {t : Nat} (x : LockD) (ha : ∀ r ∈ a, r.xtxn < t) (hq : ∀ r ∈ q, t < r.xtxn) : waitR (a ++ q) t x = a ++ rowT.mk t (Ll.mk []) true x :: q := by
  have h := put_b x ha hq
  unfold putR at h
  unfold waitR
  have h1 := List.append_inj h (by
    have : (List.filter (fun r : rowT => decide (r.xtxn < t)) (a ++ q)) = a := by
      rw [List.filter_append, filt_all (fun r hr => decide_eq_true (ha r hr)), List.filter_eq_nil_iff.2 (fun r hr => by simp; have := hq r hr; omega), List.append_nil]
    rw [this])
  have h2 := List.cons.inj h1.2
  rw [h1.1, h2.2]
  have h3 : old (a ++ q) t ++ [x] = [] ++ [x] := congrArg (fun r : rowT => r.xheld.ls) h2.1
  rw [(List.append_inj' h3 rfl).1]
end Go.Proofs.Ytggnajpokhaaiaa
