/-
  A table and the document's: what is held and what is waited for, side by side. Conditions: none beyond each law's own.
-/
import Derived.Test.YtggnajpokhaaiaaLkF
import Derived.Test.YtggnajpokhaaiaaLkV
namespace Go.Proofs.Ytggnajpokhaaiaa
set_option linter.unusedVariables false
set_option linter.unusedSimpArgs false
def isx (t : Nat) (h : HeldD) : Bool := decide (h.xTxn = t)
def wl (m : List rowT) : List HeldD := (m.filter fun r => r.xwaits).map fun r => HeldD.mk r.xtxn r.xwant
structure Mt (m : List rowT) (h w : List HeldD) : Prop where
  H : ∀ t, h.filter (isx t) = (old m t).map (HeldD.mk t)
  W : w = wl m
theorem mem_old {m : List rowT} {t : Nat} {y : LockD} : y ∈ old m t ↔ ∃ r ∈ m, r.xtxn = t ∧ y ∈ r.xheld.ls := by
  unfold old
  rw [List.mem_flatMap]
  constructor
  · rintro ⟨r, hr, hy⟩
    have := List.mem_filter.1 hr
    exact ⟨r, this.1, of_decide_eq_true this.2, hy⟩
  · rintro ⟨r, hr, ht, hy⟩
    exact ⟨r, List.mem_filter.2 ⟨hr, decide_eq_true ht⟩, hy⟩
theorem mem_wl {m : List rowT} {y : HeldD} : y ∈ wl m ↔ ∃ r ∈ m, r.xwaits = true ∧ HeldD.mk r.xtxn r.xwant = y := by
  unfold wl
  rw [List.mem_map]
  constructor
  · rintro ⟨r, hr, e⟩
    have := List.mem_filter.1 hr
    exact ⟨r, this.1, this.2, e⟩
  · rintro ⟨r, hr, hw, e⟩
    exact ⟨r, List.mem_filter.2 ⟨hr, hw⟩, e⟩
theorem Mt.mem {m : List rowT} {h w : List HeldD} (hM : Mt m h w) {y : HeldD} : y ∈ h ↔ ∃ r ∈ m, r.xtxn = y.xTxn ∧ y.xLock ∈ r.xheld.ls := by
  rw [← mem_old]
  have e : y ∈ h ↔ y ∈ h.filter (isx y.xTxn) := by rw [List.mem_filter]; simp [isx]
  rw [e, hM.H, List.mem_map]
  constructor
  · rintro ⟨l, hl, e⟩
    rw [← e]; exact hl
  · intro h; exact ⟨y.xLock, h, rfl⟩
theorem old_filter (p : Nat → Bool) (m : List rowT) (t : Nat) : old (m.filter fun r => p r.xtxn) t = if p t = true then old m t else [] := by
  unfold old
  rw [List.filter_filter]
  by_cases h : p t = true
  · rw [if_pos h]
    congr 1
    refine List.filter_congr fun r hr => ?_
    by_cases e : r.xtxn = t
    · rw [e, h, Bool.and_true]
    · rw [decide_eq_false e]; rfl
  · rw [if_neg h, List.filter_eq_nil_iff.2 fun r hr => ?_]
    · rfl
    · intro q
      have := Bool.and_eq_true_iff.1 q
      exact h (of_decide_eq_true this.1 ▸ this.2)
theorem old_put {m : List rowT} (hs : Up m) (t : Nat) (x : LockD) (s : Nat) : old (putR m t x) s = if s = t then old m t ++ [x] else old m s := by
  unfold putR
  have e1 := old_filter (fun n => decide (n < t)) m s
  have e2 := old_filter (fun n => decide (t < n)) m s
  unfold old at e1 e2 ⊢
  rw [List.filter_append, List.flatMap_append, e1]
  by_cases c : s = t
  · subst c
    rw [if_pos rfl, if_neg (by simp), List.filter_cons_of_pos (by simp), List.flatMap_cons, e2, if_neg (by simp), List.append_nil]
    rfl
  · rw [if_neg c, List.filter_cons_of_neg (by simp; omega), e2]
    rcases Nat.lt_or_gt_of_ne c with d | d
    · rw [if_pos (decide_eq_true d), if_neg (by simp; omega), List.append_nil]
    · rw [if_neg (by simp; omega), if_pos (decide_eq_true d), List.nil_append]
theorem wl_filter (p : Nat → Bool) (m : List rowT) : wl (m.filter fun r => p r.xtxn) = (wl m).filter fun w => p w.xTxn := by
  unfold wl
  rw [List.filter_map, List.filter_filter, List.filter_filter]
  congr 1
  refine List.filter_congr fun r hr => ?_
  simp only [Function.comp]
  exact Bool.and_comm _ _
theorem wl_app (a b : List rowT) : wl (a ++ b) = wl a ++ wl b := by unfold wl; rw [List.filter_append, List.map_append]
theorem filt_id {α : Type} {l : List α} {p : α → Bool} (h : ∀ r ∈ l, p r = true) : l.filter p = l := List.filter_eq_self.2 h
theorem wl_put {m : List rowT} (hs : Up m) (t : Nat) (x : LockD) : wl (putR m t x) = (wl m).filter (notx t) := by
  have h1 : ∀ l : List rowT, (∀ r ∈ l, r.xtxn ≠ t) → (wl l).filter (notx t) = wl l := fun l h => filt_id fun y hy => by
    obtain ⟨r, hr, _, e⟩ := mem_wl.1 hy
    rw [← e]; exact decide_eq_true (h r hr)
  rcases find_two hs t with ⟨a, p, q, rfl, hp, ha, hq, _⟩ | ⟨a, q, rfl, ha, hq, _⟩
  · rw [put_a x hp ha hq, wl_app, wl_app, List.filter_append, h1 a fun r hr => Nat.ne_of_lt (ha r hr)]
    congr 1
    have e1 : wl (rowT.mk t (Ll.mk (p.xheld.ls ++ [x])) false zl :: q) = wl q := by unfold wl; rw [List.filter_cons_of_neg (by simp)]
    have e2 : (wl (p :: q)).filter (notx t) = (wl q).filter (notx t) := by
      unfold wl
      by_cases c : p.xwaits = true
      · rw [List.filter_cons_of_pos c, List.map_cons, List.filter_cons_of_neg (by simp [notx, hp])]
      · rw [List.filter_cons_of_neg c]
    rw [e1, e2, h1 q fun r hr => Nat.ne_of_gt (hq r hr)]
  · rw [put_b x ha hq, wl_app, wl_app, List.filter_append, h1 a fun r hr => Nat.ne_of_lt (ha r hr), h1 q fun r hr => Nat.ne_of_gt (hq r hr)]
    congr 1
theorem wl_up {m : List rowT} (hs : Up m) : (wl m).Pairwise fun a b => a.xTxn < b.xTxn := List.pairwise_map.2 (hs.filter _)
theorem wl_len (m : List rowT) : (wl m).length = Wt m := by
  unfold wl Wt
  rw [List.length_map]
  induction m with
  | nil => rfl
  | cons r m ih =>
    by_cases c : r.xwaits = true
    · rw [List.filter_cons_of_pos c, List.map_cons, List.sum_cons, List.length_cons, ih]; unfold wt1; rw [if_pos c]; omega
    · rw [List.filter_cons_of_neg c, List.map_cons, List.sum_cons, ih]; unfold wt1; rw [if_neg c]; omega
def flat (m : List rowT) : List HeldD := m.flatMap fun r => r.xheld.ls.map (HeldD.mk r.xtxn)
theorem flat_filt (m : List rowT) (t : Nat) : (flat m).filter (isx t) = (old m t).map (HeldD.mk t) := by
  unfold flat old
  induction m with
  | nil => rfl
  | cons r m ih =>
    rw [List.flatMap_cons, List.filter_append, ih]
    by_cases c : r.xtxn = t
    · rw [List.filter_cons_of_pos (by simp [c]), List.flatMap_cons, List.map_append, c]
      congr 1
      exact filt_id fun y hy => by obtain ⟨l, _, e⟩ := List.mem_map.1 hy; rw [← e]; simp [isx]
    · rw [List.filter_cons_of_neg (by simp [c])]
      rw [List.filter_eq_nil_iff.2 fun y hy => by obtain ⟨l, _, e⟩ := List.mem_map.1 hy; rw [← e]; simp [isx, c]]
      rfl
theorem perm_filt {a b : List HeldD} (h : ∀ t, a.filter (isx t) = b.filter (isx t)) : a.Perm b := by
  classical
  rw [List.perm_iff_count]
  intro x
  have := congrArg (List.count x) (h x.xTxn)
  rwa [List.count_filter (by simp [isx]), List.count_filter (by simp [isx])] at this
theorem Mt.len {m : List rowT} {h w : List HeldD} (hM : Mt m h w) : h.length + w.length = Tot m := by
  have h1 : h.length = (flat m).length := (perm_filt fun t => (hM.H t).trans (flat_filt m t).symm).length_eq
  rw [h1, hM.W]
  unfold Tot
  have h2 := wl_len m
  rw [h2]
  unfold Wt flat
  clear h1 h2 hM
  induction m with
  | nil => rfl
  | cons r m ih =>
    rw [List.flatMap_cons, List.length_append, List.length_map, List.map_cons, List.sum_cons, List.map_cons, List.sum_cons]
    omega
theorem way_eq (a b : HeldD) : r16_Way a b = (decide (a.xTxn ≠ b.xTxn) && clash a.xLock b.xLock) := by
  unfold r16_Way clash
  rw [bnd_eq, meet_eq]
  by_cases c : a.xTxn = b.xTxn
  · rw [if_pos (by omega), decide_eq_false (fun h => h c)]; rfl
  · rw [if_neg (by omega), decide_eq_true c]
    by_cases d : (span_Meet a.xLock.xRange b.xLock.xRange).2 = true
    · rw [if_pos d, d]
      by_cases e : a.xLock.xWrite = true
      · rw [if_pos e, e]; rfl
      · rw [if_neg e, Bool.eq_false_iff.2 e]; simp
    · rw [if_neg d, Bool.eq_false_iff.2 d]; rfl
theorem free_iff {x : TableDT} {a : HeldD} : r16_Table_free x a = true ↔ ∀ y ∈ x.xH.ls, r16_Way y a = false := by
  have go : ∀ l : List HeldD, lp (r16_Table_free_L0 a l) (fun _ => true) = true ↔ ∀ y ∈ l, r16_Way y a = false := by
    intro l
    induction l with
    | nil => exact ⟨fun _ y hy => (by cases hy), fun _ => rfl⟩
    | cons y q ih =>
      rw [r16_Table_free_L0, bnd_eq]
      by_cases c : r16_Way y a = true
      · rw [if_pos c]
        exact ⟨fun h => Bool.noConfusion (show false = true from h), fun h => absurd (h y (.head _)) (by rw [c]; decide)⟩
      · rw [if_neg c, ih]
        constructor
        · intro h z hz
          rcases List.mem_cons.1 hz with e | e
          · rw [e]; exact Bool.eq_false_iff.2 c
          · exact h z e
        · exact fun h z hz => h z (.tail _ hz)
  exact go _
theorem free_eq {m : List rowT} {h w : List HeldD} (hM : Mt m h w) (t : Nat) (x : LockD) : r16_Table_free (TableDT.mk (Ll.mk h) (Ll.mk w)) (HeldD.mk t x) = true ↔ locks_Table_holders (TableT.mk (Ll.mk m)) t x = [] := by
  rw [free_iff, holders_told, List.map_eq_nil_iff, List.filter_eq_nil_iff]
  constructor
  · intro hf r hr hw
    unfold inw at hw
    obtain ⟨h1, h2⟩ := Bool.and_eq_true_iff.1 hw
    obtain ⟨l, hl, hc⟩ := List.any_eq_true.1 h2
    have h3 := hf (HeldD.mk r.xtxn l) (hM.mem.2 ⟨r, hr, rfl, hl⟩)
    rw [way_eq] at h3
    simp only at h3
    rw [h1, clash_comm, hc] at h3
    cases h3
  · intro hn y hy
    obtain ⟨r, hr, ht, hl⟩ := hM.mem.1 hy
    have h1 := hn r hr
    rw [way_eq]
    simp only
    cases hc : (decide (y.xTxn ≠ t) && clash y.xLock x) with
    | false => rfl
    | true =>
      obtain ⟨h2, h3⟩ := Bool.and_eq_true_iff.1 hc
      exact absurd (by unfold inw; rw [ht, h2, List.any_eq_true.2 ⟨_, hl, by rw [clash_comm]; exact h3⟩]; rfl) h1
theorem next_eq {m : List rowT} {h w : List HeldD} (hM : Mt m h w) : r16_Table_next (TableDT.mk (Ll.mk h) (Ll.mk w)) = (HeldD.mk (locks_Table_next (TableT.mk (Ll.mk m))).1.xTxn (locks_Table_next (TableT.mk (Ll.mk m))).1.xLock, (locks_Table_next (TableT.mk (Ll.mk m))).2) := by
  have go : ∀ l : List rowT, lp (r16_Table_next_L0 (TableDT.mk (Ll.mk h) (Ll.mk w)) (wl l)) (fun _ => (HeldD.mk 0 (LockD.mk (RangeD.mk ([]) ([])) false), false)) =
      (HeldD.mk (lp (locks_Table_next_L0 (TableT.mk (Ll.mk m)) l) (fun _ => (AskD.mk 0 (LockD.mk (RangeD.mk ([]) ([])) false), false))).1.xTxn (lp (locks_Table_next_L0 (TableT.mk (Ll.mk m)) l) (fun _ => (AskD.mk 0 (LockD.mk (RangeD.mk ([]) ([])) false), false))).1.xLock, (lp (locks_Table_next_L0 (TableT.mk (Ll.mk m)) l) (fun _ => (AskD.mk 0 (LockD.mk (RangeD.mk ([]) ([])) false), false))).2) := by
    intro l
    induction l with
    | nil => rfl
    | cons r l ih =>
      rw [locks_Table_next_L0]
      by_cases c : r.xwaits = true
      · rw [if_pos c, bnd_eq]
        have e : wl (r :: l) = HeldD.mk r.xtxn r.xwant :: wl l := by unfold wl; rw [List.filter_cons_of_pos c]; rfl
        rw [e, r16_Table_next_L0, bnd_eq]
        have hf := free_eq hM r.xtxn r.xwant
        by_cases d : locks_Table_holders (TableT.mk (Ll.mk m)) r.xtxn r.xwant = []
        · rw [if_pos (hf.2 d), if_pos (by rw [d]; rfl)]; rfl
        · rw [if_neg (fun q => d (hf.1 q)), if_neg (show ¬ ((List.length (locks_Table_holders (TableT.mk (Ll.mk m)) r.xtxn r.xwant) : Nat) : Int) = 0 from fun q => d (List.eq_nil_of_length_eq_zero (Int.ofNat.inj q))), ih]
      · rw [if_neg c]
        have e : wl (r :: l) = wl l := by unfold wl; rw [List.filter_cons_of_neg c]
        rw [e, ih]
  have h1 := go m
  rw [← hM.W] at h1
  exact h1
theorem dead_eq (t : Nat) (x : LockD) : ∀ l : List rowT, List.map (fun q : rowT => q.xtxn) (l.filter (dies t x)) = ((wl l).filter (rdead (HeldD.mk t x))).map fun y => y.xTxn
  | [] => rfl
  | r :: l => by
    have ih := dead_eq t x l
    by_cases c : r.xwaits = true
    · have e : wl (r :: l) = HeldD.mk r.xtxn r.xwant :: wl l := by unfold wl; rw [List.filter_cons_of_pos c]; rfl
      have e2 : rdead (HeldD.mk t x) (HeldD.mk r.xtxn r.xwant) = dies t x r := by
        unfold rdead dies
        rw [way_eq, c, Bool.true_and]
        simp only
        by_cases d : t < r.xtxn
        · rw [decide_eq_true d, decide_eq_true (Nat.ne_of_gt d), Bool.true_and, Bool.true_and, Bool.true_and, clash_comm]; rfl
        · rw [decide_eq_false d]; rfl
      rw [e]
      by_cases d : dies t x r = true
      · rw [List.filter_cons_of_pos d, List.filter_cons_of_pos (by rw [e2]; exact d), List.map_cons, List.map_cons, ih]
      · rw [List.filter_cons_of_neg d, List.filter_cons_of_neg (by rw [e2]; exact d), ih]
    · have e : wl (r :: l) = wl l := by unfold wl; rw [List.filter_cons_of_neg c]
      rw [e, List.filter_cons_of_neg (by unfold dies; rw [Bool.eq_false_iff.2 c]; simp), ih]
theorem rgL0_eq (p0 : TableDT) (x : HeldD) : ∀ (l : List HeldD) (acc : List Nat), (l.Pairwise fun a b => a.xTxn < b.xTxn) → (∀ a ∈ acc, ∀ y ∈ l, a < y.xTxn) → r16_Table_grant_L0 p0 x l acc = acc ++ (l.filter (rdead x)).map fun y => y.xTxn
  | [], acc, _, _ => by rw [r16_Table_grant_L0]; simp
  | y :: q, acc, hp, ha => by
    obtain ⟨p1, p2⟩ := List.pairwise_cons.1 hp
    rw [rgL0_step]
    by_cases c : rdead x y = true
    · rw [if_pos c, add_end fun z hz => ha z hz y (.head _), rgL0_eq p0 x q _ p2, List.filter_cons_of_pos c, List.map_cons, List.append_assoc]
      · rfl
      · intro a h z hz
        rcases List.mem_append.1 h with e | e
        · exact ha a e z (.tail _ hz)
        · rw [List.mem_singleton.1 e]; exact p1 z hz
    · rw [if_neg c, rgL0_eq p0 x q _ p2 (fun a h z hz => ha a h z (.tail _ hz)), List.filter_cons_of_neg c]
theorem grant_mt {m : List rowT} (hs : Up m) {h : List HeldD} (hH : ∀ t, h.filter (isx t) = (old m t).map (HeldD.mk t)) (t : Nat) (x : LockD) {w1 : List HeldD} (hw : w1 = (wl m).filter (notx t)) :
    ∃ h' w', r16_Table_grant (TableDT.mk (Ll.mk h) (Ll.mk w1)) (HeldD.mk t x) = (gD m t x, TableDT.mk (Ll.mk h') (Ll.mk w')) ∧ Mt (gR m t x) h' w' := by
  have hu := up_put hs t x
  rw [← wl_put hs t x] at hw
  have e1 : r16_Table_grant_L0 (TableDT.mk (Ll.mk h) (Ll.mk w1)) (HeldD.mk t x) w1 [] = gD m t x := by
    rw [rgL0_eq _ _ _ _ (by rw [hw]; exact wl_up hu) (fun a h => (by cases h)), List.nil_append, hw, ← dead_eq]
    rfl
  have e2 : gR m t x = (putR m t x).filter fun r => (fun n => decide (n ∉ gD m t x)) r.xtxn := (filt_die hu (dies t x)).symm
  refine ⟨(h ++ [HeldD.mk t x]).filter (notin (gD m t x)), w1.filter (notin (gD m t x)), by rw [rgrant, e1], fun s => ?_, ?_⟩
  · have e5 : old (gR m t x) s = if decide (s ∉ gD m t x) = true then old (putR m t x) s else [] := by rw [e2]; exact old_filter (fun n => decide (n ∉ gD m t x)) (putR m t x) s
    rw [e5, List.filter_filter, old_put hs]
    have e3 : ∀ l : List HeldD, (l.filter fun y => isx s y && notin (gD m t x) y) = if decide (s ∉ gD m t x) = true then l.filter (isx s) else [] := by
      intro l
      by_cases c : decide (s ∉ gD m t x) = true
      · rw [if_pos c]
        refine List.filter_congr fun y hy => ?_
        by_cases d : y.xTxn = s
        · unfold notin isx; rw [d, c, Bool.and_true]
        · unfold isx; rw [decide_eq_false d]; rfl
      · rw [if_neg c, List.filter_eq_nil_iff.2 fun y hy => ?_]
        intro q
        obtain ⟨q1, q2⟩ := Bool.and_eq_true_iff.1 q
        unfold isx at q1; unfold notin at q2
        rw [of_decide_eq_true q1] at q2
        exact c q2
    rw [e3]
    by_cases c : decide (s ∉ gD m t x) = true
    · rw [if_pos c, if_pos c, List.filter_append, hH s]
      by_cases d : s = t
      · rw [if_pos d, List.filter_cons_of_pos (by simp [isx, d]), d, List.map_append]; rfl
      · rw [if_neg d, List.filter_cons_of_neg (by simp [isx]; omega)]; simp
    · rw [if_neg c, if_neg c]; rfl
  · have e5 : wl (gR m t x) = (wl (putR m t x)).filter fun y => decide (y.xTxn ∉ gD m t x) := by rw [e2]; exact wl_filter (fun n => decide (n ∉ gD m t x)) (putR m t x)
    rw [e5, hw]; rfl
theorem Mt.but {m : List rowT} {h w : List HeldD} (hM : Mt m h w) (t : Nat) : Mt (but t m) (h.filter (notx t)) (w.filter (notx t)) := by
  refine ⟨fun s => ?_, ?_⟩
  · have e := old_filter (fun n => decide (n ≠ t)) m s
    unfold Go.Proofs.Ytggnajpokhaaiaa.but
    rw [e, List.filter_filter]
    by_cases c : s = t
    · rw [if_neg (by simp [c]), List.filter_eq_nil_iff.2 fun y hy => by unfold isx notx; simp [c]]; rfl
    · rw [if_pos (decide_eq_true c), ← hM.H s]
      refine List.filter_congr fun y hy => ?_
      unfold isx notx
      by_cases d : y.xTxn = s
      · rw [decide_eq_true d, decide_eq_true (by omega)]; rfl
      · rw [decide_eq_false d]; rfl
  · rw [hM.W]; exact (wl_filter (fun n => decide (n ≠ t)) m).symm
end Go.Proofs.Ytggnajpokhaaiaa
