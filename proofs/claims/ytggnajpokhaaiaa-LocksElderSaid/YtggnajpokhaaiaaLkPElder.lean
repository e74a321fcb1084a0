/-
  The eldest transaction never dies.
  Conditions: none beyond each law's own.
-/
import Derived.Test.YtggnajpokhaaiaaLkU
import Derived.Test.YtggnajpokhaaiaaLElder
namespace Go.Proofs.Ytggnajpokhaaiaa
set_option linter.unusedVariables false
set_option linter.unusedSimpArgs false
theorem mem_put {m : List rowT} {t : Nat} {x : LockD} {s : rowT} : s ∈ putR m t x ↔ (s ∈ m ∧ s.xtxn ≠ t) ∨ s = rowT.mk t (Ll.mk (old m t ++ [x])) false zl := by
  unfold putR
  rw [List.mem_append, List.mem_cons, List.mem_filter, List.mem_filter]
  constructor
  · rintro (⟨h, h2⟩ | h | ⟨h, h2⟩)
    · exact .inl ⟨h, Nat.ne_of_lt (of_decide_eq_true h2)⟩
    · exact .inr h
    · exact .inl ⟨h, Nat.ne_of_gt (of_decide_eq_true h2)⟩
  · rintro (⟨h, h2⟩ | h)
    · rcases Nat.lt_or_gt_of_ne h2 with c | c
      · exact .inl ⟨h, decide_eq_true c⟩
      · exact .inr (.inr ⟨h, decide_eq_true c⟩)
    · exact .inr (.inl h)
/-- the eldest one's row -/
def Row0 (x : LockD) (m : List rowT) : Prop := ∃ r ∈ m, r.xtxn = 0 ∧ ((r.xheld.ls = [x] ∧ r.xwaits = false) ∨ (r.xheld.ls = [] ∧ r.xwaits = true ∧ r.xwant = x))
def In (S : List Nat) (m : List rowT) : Prop := ∀ r ∈ m, r.xtxn ∈ S
theorem not_die0 {t : Nat} {x : LockD} {r : rowT} (h : r.xtxn = 0) : dies t x r = false := by unfold dies; rw [h]; simp
theorem dead_pos {m : List rowT} {t : Nat} {x : LockD} : ∀ n ∈ List.map (fun q : rowT => q.xtxn) (m.filter (dies t x)), n ≠ 0 := fun n hn => by
  obtain ⟨r, hr, e⟩ := List.mem_map.1 hn
  intro h
  have := (List.mem_filter.1 hr).2
  rw [not_die0 (e.trans h)] at this
  cases this
theorem in_put {S : List Nat} {m : List rowT} {t : Nat} {x : LockD} (h : In S m) (ht : t ∈ S) : In S (putR m t x) := fun s hs => by
  rcases mem_put.1 hs with ⟨h1, _⟩ | h1
  · exact h s h1
  · rw [h1]; exact ht
theorem in_filter {S : List Nat} {m : List rowT} (p : rowT → Bool) (h : In S m) : In S (m.filter p) := fun s hs => h s (List.mem_filter.1 hs).1
theorem row0_filter {x : LockD} {m : List rowT} {p : rowT → Bool} (h : Row0 x m) (hp : ∀ r ∈ m, r.xtxn = 0 → p r = true) : Row0 x (m.filter p) := by
  obtain ⟨r, hr, h0, h1⟩ := h
  exact ⟨r, List.mem_filter.2 ⟨hr, hp r hr h0⟩, h0, h1⟩
/-- what settling keeps -/
theorem el_settle {x : LockD} {S : List Nat} {m : List rowT} (hf : Fit m) (g d : List Nat) (h0 : Row0 x m) (hS : In S m) (hd : ∀ n ∈ d, n ≠ 0) :
    Row0 x (locks_Table_settle_L0 (Wt m + 1) m g d).1 ∧ In S (locks_Table_settle_L0 (Wt m + 1) m g d).1 ∧ ∀ n ∈ (locks_Table_settle_L0 (Wt m + 1) m g d).2.2, n ≠ 0 :=
  (settle_ind (I := fun l _ d' => Row0 x l ∧ In S l ∧ ∀ n ∈ d', n ≠ 0) (fun l g' d' r hf hI hr hw _ => by
    obtain ⟨⟨q, hq, q0, hqq⟩, h2, h3⟩ := hI
    refine ⟨?_, in_filter _ (in_put h2 (h2 r hr)), ?_⟩
    · refine row0_filter ?_ (fun s _ hs => by rw [not_die0 hs]; rfl)
      by_cases c : r.xtxn = 0
      · have e : q = r := up_inj hf.up hq hr (q0.trans c.symm)
        subst e
        rcases hqq with ⟨_, w⟩ | ⟨hh, _, hwant⟩
        · rw [w] at hw; cases hw
        · refine ⟨_, mem_put.2 (.inr rfl), c, .inl ⟨?_, rfl⟩⟩
          show old l q.xtxn ++ [q.xwant] = [x]
          rw [old_mem hf.up hq, hh, hwant]; rfl
      · exact ⟨q, mem_put.2 (.inl ⟨hq, fun e => c (e.symm.trans q0)⟩), q0, hqq⟩
    · intro n hn
      rcases List.mem_append.1 hn with h4 | h4
      · exact h3 n h4
      · exact dead_pos n h4) (Wt m + 1) m g d (by omega) hf ⟨h0, hS, hd⟩).1
structure EK (x : LockD) (S : List Nat) (m : List rowT) : Prop where
  ej : EJ m
  row : Row0 x m
  ins : In S m
theorem srt_mem {l : List Nat} {n : Nat} : n ∈ srt l ↔ n ∈ l := (srt_perm l).mem_iff
theorem el_release {x : LockD} {S : List Nat} {m : List rowT} {t : Nat} (h : EK x (t :: S) m) (ht : t ≠ 0) :
    EK x (0 :: S) (locks_Table_Release (TableT.mk (Ll.mk m)) t).2.2.xrows.ls ∧ ∀ n ∈ (locks_Table_Release (TableT.mk (Ll.mk m)) t).2.1, n ≠ 0 := by
  have he := ej_release h.ej.snd t
  have e : locks_Table_Release (TableT.mk (Ll.mk m)) t = (srt (locks_Table_settle_L0 (Wt (but t m) + 1) (but t m) [] []).2.1, srt (locks_Table_settle_L0 (Wt (but t m) + 1) (but t m) [] []).2.2, TableT.mk (Ll.mk (locks_Table_settle_L0 (Wt (but t m) + 1) (but t m) [] []).1)) := by
    unfold locks_Table_Release
    rw [bnd_eq, bnd_eq, drop_told h.ej.snd.up, settle_told]
  rw [e] at he ⊢
  have hs := el_settle (x := x) (S := 0 :: S) (m := but t m) (h.ej.snd.fit.filter _) [] [] (row0_filter h.row fun r _ h0 => decide_eq_true (by rw [h0]; exact fun e => ht e.symm)) (fun r hr => by
    obtain ⟨h1, h2⟩ := List.mem_filter.1 hr
    rcases List.mem_cons.1 (h.ins r h1) with c | c
    · exact absurd c (of_decide_eq_true h2)
    · exact .tail _ c) (fun n hn => by cases hn)
  exact ⟨⟨he, hs.1, hs.2.1⟩, fun n hn => hs.2.2 n (srt_mem.1 hn)⟩
theorem no0 {r : TableT} : ∀ l : List Nat, (∀ n ∈ l, n ≠ 0) → w16_LocksElder_L3 r l = Sum.inl () ∧ w16_LocksElder_L6 r l = Sum.inl ()
  | [], _ => ⟨rfl, rfl⟩
  | a :: l, h => by
    have ih := no0 (r := r) l fun n hn => h n (.tail _ hn)
    have ha : ¬ ((a : Nat) : Int) = 0 := fun e => h a (.head _) (Int.ofNat.inj e)
    exact ⟨by rw [w16_LocksElder_L3, if_neg ha]; exact ih.1, by rw [w16_LocksElder_L6, if_neg ha]; exact ih.2⟩
theorem no1 {b : Bool} {r : TableT} : ∀ l : List Nat, (∀ n ∈ l, n ≠ 0) → w16_LocksElder_L1 b r l = Sum.inl () ∧ w16_LocksElder_L4 b r l = Sum.inl ()
  | [], _ => ⟨rfl, rfl⟩
  | a :: l, h => by
    have ih := no1 (b := b) (r := r) l fun n hn => h n (.tail _ hn)
    have ha : ¬ ((a : Nat) : Int) = 0 := fun e => h a (.head _) (Int.ofNat.inj e)
    exact ⟨by rw [w16_LocksElder_L1, if_neg ha]; exact ih.1, by rw [w16_LocksElder_L4, if_neg ha]; exact ih.2⟩
theorem el_loop {x : LockD} {b : Bool} : ∀ (S : List Nat) (m : List rowT), EK x (0 :: S) m → (∃ m', w16_LocksElder_L2 b S m = Sum.inl m' ∧ EK x [0] m') ∧ (∃ m', w16_LocksElder_L5 b S m = Sum.inl m' ∧ EK x [0] m') := by
  intro S
  induction S with
  | nil => intro m h; exact ⟨⟨m, rfl, h⟩, ⟨m, rfl, h⟩⟩
  | cons t S ih =>
    intro m h
    rw [w16_LocksElder_L2, w16_LocksElder_L5]
    by_cases c : t = 0
    · rw [if_pos (by rw [c]; rfl), if_pos (by rw [c]; rfl), lpS_inl, lpS_inl]
      exact ih m ⟨h.ej, h.row, fun r hr => by
        rcases List.mem_cons.1 (h.ins r hr) with e | e
        · rw [e]; exact .head _
        · rcases List.mem_cons.1 e with e2 | e2
          · rw [e2, c]; exact .head _
          · exact .tail _ e2⟩
    · have hc : ¬ ((t : Nat) : Int) = 0 := fun e => c (Int.ofNat.inj e)
      have hk : EK x (t :: 0 :: S) m := ⟨h.ej, h.row, fun r hr => by
        rcases List.mem_cons.1 (h.ins r hr) with e | e
        · rw [e]; exact .tail _ (.head _)
        · rcases List.mem_cons.1 e with e2 | e2
          · rw [e2]; exact .head _
          · exact .tail _ (.tail _ e2)⟩
      obtain ⟨h1, h2⟩ := el_release hk c
      rw [if_neg hc, if_neg hc]
      simp only [bnd_eq]
      rw [(no0 _ h2).1, (no0 _ h2).2]
      simp only [lpS_inl]
      exact ih _ ⟨h1.ej, h1.row, fun r hr => by
        rcases List.mem_cons.1 (h1.ins r hr) with e | e
        · rw [e]; exact .head _
        · exact e⟩
/-- in the end -/
theorem el_end {x : LockD} {m : List rowT} (h : EK x [0] m) : List.length (locks_Table_Holds (TableT.mk (Ll.mk m)) 0) = 1 := by
  obtain ⟨r, hr, h0, h1⟩ := h.row
  rw [Holds_told h.ej.snd.up, ← h0, old_mem h.ej.snd.up hr]
  rcases h1 with ⟨h1, _⟩ | ⟨_, h2, _⟩
  · rw [h1]; rfl
  · exfalso
    obtain ⟨s, hs, hn, _⟩ := holders_some (h.ej.still r hr h2)
    have := List.mem_singleton.1 (h.ins s hs)
    exact hn (this.trans h0.symm)
structure EN (k : Nat) (m : List rowT) : Prop where
  ej : EJ m
  nz : ∀ r ∈ m, r.xtxn ≠ 0
  tot : Tot m ≤ k
theorem en_settle {k : Nat} {m : List rowT} (hf : Fit m) (g d : List Nat) (hz : ∀ r ∈ m, r.xtxn ≠ 0) (ht : Tot m ≤ k) : (∀ r ∈ (locks_Table_settle_L0 (Wt m + 1) m g d).1, r.xtxn ≠ 0) ∧ Tot (locks_Table_settle_L0 (Wt m + 1) m g d).1 ≤ k :=
  (settle_ind (I := fun l _ _ => (∀ r ∈ l, r.xtxn ≠ 0) ∧ Tot l ≤ k) (fun l g' d' r hf hI hr hw _ => by
    obtain ⟨_, h2, _⟩ := put_wait hf.up hr hw r.xwant
    refine ⟨fun s hs => ?_, Nat.le_trans (sum_filter _ _) (show Tot (putR l r.xtxn r.xwant) ≤ k by rw [h2]; exact hI.2)⟩
    rcases mem_put.1 (List.mem_filter.1 hs).1 with ⟨h1, _⟩ | h1
    · exact hI.1 s h1
    · rw [h1]; exact hI.1 r hr) (Wt m + 1) m g d (by omega) hf ⟨hz, ht⟩).1
theorem gR_fit {m : List rowT} (h : Sound m) (t : Nat) (x : LockD) : Fit (gR m t x) ∧ Tot (gR m t x) ≤ Tot m + 1 := by
  obtain ⟨h2, h3⟩ := put_tot m h.up t x
  have h4 := putR_len m h.up t x
  have h5 := h.len
  have h6 := h.tot
  have h7 := List.length_filter_le (fun r => !dies t x r) (putR m t x)
  have h9 : List.length (gR m t x) = List.length ((putR m t x).filter fun r => !dies t x r) := rfl
  have h10 : Tot (gR m t x) ≤ Tot (putR m t x) := sum_filter _ _
  exact ⟨⟨(up_put h.up t x).filter _, show List.length (gR m t x) ≤ 999999 by omega, show Tot (gR m t x) ≤ 1000000 by omega⟩, by omega⟩
theorem mem_wait {m : List rowT} {t : Nat} {x : LockD} {s : rowT} (h : s ∈ waitR m t x) : s ∈ m ∨ s.xtxn = t := by
  unfold waitR at h
  rcases List.mem_append.1 h with h1 | h1
  · exact .inl (List.mem_filter.1 h1).1
  · rcases List.mem_cons.1 h1 with h2 | h2
    · exact .inr (by rw [h2])
    · exact .inl (List.mem_filter.1 h2).1
theorem en_ask {k : Nat} {m : List rowT} (h : EN k m) {t : Nat} (ht : t ≠ 0) (x : LockD) : EN (k + 1) (askM m t x).2.2.2.2 := by
  have he := ej_ask h.ej t x
  have hup : (∀ r ∈ m, r.xtxn ≠ 0) ∧ Tot m ≤ k + 1 := ⟨h.nz, Nat.le_succ_of_le h.tot⟩
  suffices hh : (∀ r ∈ (askM m t x).2.2.2.2, r.xtxn ≠ 0) ∧ Tot (askM m t x).2.2.2.2 ≤ k + 1 from ⟨he, hh.1, hh.2⟩
  unfold askM
  by_cases c1 : span_Check x.xRange = 0
  · rw [if_pos c1]
    by_cases c2 : locks_Table_waiting (TableT.mk (Ll.mk m)) t = true
    · rw [if_pos c2]; exact hup
    · rw [if_neg c2]
      by_cases c3 : locks_Table_has (TableT.mk (Ll.mk m)) t x = true
      · rw [if_pos c3]; exact hup
      · rw [if_neg c3]
        by_cases c4 : 192 ≤ Tot m
        · rw [if_pos c4]; exact hup
        · rw [if_neg c4]
          by_cases c5 : locks_Table_holders (TableT.mk (Ll.mk m)) t x = []
          · rw [if_pos c5]
            obtain ⟨hf, h1⟩ := gR_fit h.ej.snd t x
            have h2 := h.tot
            exact en_settle hf [] (gD m t x) (fun r hr => by
              rcases mem_put.1 (List.mem_filter.1 hr).1 with ⟨h3, _⟩ | h3
              · exact h.nz r h3
              · rw [h3]; exact ht) (by omega)
          · rw [if_neg c5]
            by_cases c6 : List.getD (locks_Table_holders (TableT.mk (Ll.mk m)) t x) 0 default < t
            · rw [if_pos c6]; exact hup
            · rw [if_neg c6]
              have h2 := h.tot
              exact ⟨fun r hr => by
                rcases mem_wait hr with h3 | h3
                · exact h.nz r h3
                · rw [h3]; exact ht, by show Tot (waitR m t x) ≤ k + 1; rw [(tot_wait h.ej.snd.up t x c2).2.2]; omega⟩
  · rw [if_neg c1]; exact hup
theorem en_release {k : Nat} {m : List rowT} (h : EN k m) (t : Nat) : EN k (locks_Table_Release (TableT.mk (Ll.mk m)) t).2.2.xrows.ls := by
  have he := ej_release h.ej.snd t
  have e : (locks_Table_Release (TableT.mk (Ll.mk m)) t).2.2.xrows.ls = (locks_Table_settle_L0 (Wt (but t m) + 1) (but t m) [] []).1 := by
    unfold locks_Table_Release
    rw [bnd_eq, bnd_eq, drop_told h.ej.snd.up, settle_told]
  rw [e] at he ⊢
  have hs := en_settle (k := k) (h.ej.snd.fit.filter fun r => decide (r.xtxn ≠ t)) [] [] (fun r hr => h.nz r (List.mem_filter.1 hr).1) (Nat.le_trans (sum_filter _ _) h.tot)
  exact ⟨he, hs.1, hs.2⟩
theorem el_ops {p1 : LockD} {b : Bool} : ∀ (l : List OpD) (k : Nat) (m : List rowT), EN k m → EN (k + l.length) (w16_LocksElder_L0 p1 b l m) := by
  intro l
  induction l with
  | nil => intro k m h; exact h
  | cons o l ih =>
    intro k m h
    rw [w16_LocksElder_L0, List.length_cons, show k + (l.length + 1) = (k + 1) + l.length by omega]
    by_cases c : o.xTxn = 0
    · rw [if_pos (show ((o.xTxn : Nat) : Int) = 0 by rw [c]; rfl)]; exact ih (k + 1) m ⟨h.ej, h.nz, Nat.le_succ_of_le h.tot⟩
    · rw [if_neg (show ¬ ((o.xTxn : Nat) : Int) = 0 from fun e => c (Int.ofNat.inj e))]
      by_cases c2 : o.xDo = 0
      · rw [if_pos c2, bnd_eq, ask_told h.ej.snd]; exact ih (k + 1) _ (en_ask h c _)
      · rw [if_neg c2, bnd_eq]
        have := en_release h o.xTxn
        exact ih (k + 1) _ ⟨this.ej, this.nz, Nat.le_succ_of_le this.tot⟩
theorem find0 {m : List rowT} (hs : Up m) (hz : ∀ r ∈ m, r.xtxn ≠ 0) : (locks_Table_find (TableT.mk (Ll.mk m)) 0).2 = false := by
  rcases find_two hs 0 with ⟨a, p, q, rfl, hp, ha, hq, hf⟩ | ⟨a, q, rfl, ha, hq, hf⟩
  · exact absurd hp (hz p (by simp))
  · rw [hf]
theorem old0 {m : List rowT} (hz : ∀ r ∈ m, r.xtxn ≠ 0) : old m 0 = [] := by
  unfold old
  rw [List.filter_eq_nil_iff.2 (fun r hr => by simpa using hz r hr)]
  rfl
/-- the eldest one asks -/
theorem el_ask {m : List rowT} (h : EN 60 m) {x : LockD} (hx : span_Check x.xRange = 0) :
    EJ (askM m 0 x).2.2.2.2 ∧ Row0 x (askM m 0 x).2.2.2.2 ∧ (∀ n ∈ (askM m 0 x).2.2.1, n ≠ 0) ∧ (askM m 0 x).2.2.2.1 = 0 ∧ ((askM m 0 x).1 = 1 ∨ (askM m 0 x).1 = 2) := by
  have he := ej_ask h.ej 0 x
  refine ⟨he, ?_⟩
  unfold askM
  have f0 := find0 h.ej.snd.up h.nz
  have w0 : locks_Table_waiting (TableT.mk (Ll.mk m)) 0 = false := by unfold locks_Table_waiting; rw [bnd_eq, if_neg (by rw [f0]; decide)]
  have h0 : locks_Table_has (TableT.mk (Ll.mk m)) 0 x = false := by unfold locks_Table_has; rw [bnd_eq, if_neg (by rw [f0]; decide)]
  have ht := h.tot
  rw [if_pos hx, if_neg (by rw [w0]; decide), if_neg (by rw [h0]; decide), if_neg (by omega)]
  by_cases c5 : locks_Table_holders (TableT.mk (Ll.mk m)) 0 x = []
  · rw [if_pos c5]
    obtain ⟨hf, _⟩ := gR_fit h.ej.snd 0 x
    have hr : Row0 x (gR m 0 x) := row0_filter ⟨_, mem_put.2 (.inr rfl), rfl, .inl ⟨by rw [old0 h.nz]; rfl, rfl⟩⟩ fun s _ hs => by rw [not_die0 hs]; rfl
    have hs := el_settle (x := x) (S := List.map (fun r : rowT => r.xtxn) (gR m 0 x)) hf [] (gD m 0 x) hr (fun r hr => List.mem_map.2 ⟨r, hr, rfl⟩) dead_pos
    exact ⟨hs.1, fun n hn => hs.2.2 n (srt_mem.1 hn), rfl, .inl rfl⟩
  · rw [if_neg c5, if_neg (Nat.not_lt_zero _)]
    exact ⟨⟨_, List.mem_append_right _ (.head _), rfl, .inr ⟨old0 h.nz, rfl, rfl⟩⟩, fun n hn => (by cases hn), rfl, .inr rfl⟩
theorem T_LocksElder (l : List OpD) (x : LockD) : w16_LocksElder l x = true := by
  unfold w16_LocksElder
  rw [bnd_eq, live_true]
  by_cases c : ((l.length : Nat) : Int) > 60
  · rw [if_pos c]; rfl
  · rw [if_neg c, bnd_eq]
    by_cases c1 : span_Check x.xRange = 0
    · rw [if_pos c1, bnd_eq]
      have h := el_ops (p1 := x) (b := true) l 0 [] ⟨⟨sound_nil, fun r hr => by cases hr⟩, fun r hr => (by cases hr), Nat.zero_le _⟩
      have h60 : EN 60 (w16_LocksElder_L0 x true l []) := ⟨h.ej, h.nz, by have := h.tot; omega⟩
      generalize w16_LocksElder_L0 x true l [] = m at h60 ⊢
      rw [ask_told h60.ej.snd]
      obtain ⟨a1, a2, a3, a4, a5⟩ := el_ask h60 c1
      generalize askM m 0 x = R at a1 a2 a3 a4 a5 ⊢
      obtain ⟨s, g, d, e, rows⟩ := R
      simp only at a1 a2 a3 a4 a5 ⊢
      simp only [bnd_eq]
      rw [if_pos a4]
      have hk : EK x (0 :: List.map (fun r : rowT => r.xtxn) rows) rows := ⟨a1, a2, fun r hr => .tail _ (List.mem_map.2 ⟨r, hr, rfl⟩)⟩
      obtain ⟨⟨m1, e1, k1⟩, ⟨m2, e2, k2⟩⟩ := el_loop (b := true) _ rows hk
      rcases a5 with a5 | a5
      · rw [if_pos a5, (no1 _ a3).1, lp_inl, Txns_told, e1, lp_inl, if_pos trivial, el_end k1]; rfl
      · rw [if_neg (by rw [a5]; decide), if_pos a5, (no1 _ a3).2, lp_inl, Txns_told, e2, lp_inl, if_pos trivial, el_end k2]; rfl
    · rw [if_neg c1]; rfl
end Go.Proofs.Ytggnajpokhaaiaa
