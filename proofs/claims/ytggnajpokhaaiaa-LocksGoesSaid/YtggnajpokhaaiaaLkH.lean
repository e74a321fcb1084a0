/-
  Settling, asking and releasing, beside the document's. Conditions: none beyond each law's own.
-/
import Derived.Test.YtggnajpokhaaiaaLkG
import Derived.Test.YtggnajpokhaaiaaLw
namespace Go.Proofs.Ytggnajpokhaaiaa
set_option linter.unusedVariables false
set_option linter.unusedSimpArgs false
structure Acc (g G : List Nat) (m : List rowT) : Prop where
  ris : Ris G
  perm : G.Perm g
  calm : ∀ n ∈ g, ∀ r ∈ m, r.xtxn = n → r.xwaits = false
theorem gR_wait {m : List rowT} {t : Nat} {x : LockD} {s : rowT} (h : s ∈ gR m t x) (hw : s.xwaits = true) : s ∈ m ∧ s.xtxn ≠ t := by
  rcases mem_put.1 (List.mem_filter.1 h).1 with e | e
  · exact e
  · rw [e] at hw; cases hw
theorem acc_g {m : List rowT} {g G : List Nat} (h : Acc g G m) {r : rowT} (hr : r ∈ m) (hw : r.xwaits = true) (x : LockD) : Acc (g ++ [r.xtxn]) (r16_Add G r.xtxn) (gR m r.xtxn x) := by
  have hn : r.xtxn ∉ G := fun q => by
    have := h.calm _ (h.perm.mem_iff.1 q) r hr rfl
    rw [this] at hw; cases hw
  refine ⟨add_ris h.ris _, ((add_perm hn).trans (h.perm.cons _)).trans (List.perm_append_comm (l₁ := [r.xtxn]) (l₂ := g)), fun n hn s hs he => ?_⟩
  cases hw2 : s.xwaits with
  | false => rfl
  | true =>
    obtain ⟨h1, h2⟩ := gR_wait hs hw2
    rcases List.mem_append.1 hn with q | q
    · have := h.calm n q s h1 he; rw [this] at hw2; cases hw2
    · exact absurd (he.trans (List.mem_singleton.1 q)) h2
theorem addAll_acc : ∀ (ds l : List Nat), Ris l → ds.Nodup → (∀ d ∈ ds, d ∉ l) → Ris (addAll l ds) ∧ (addAll l ds).Perm (l ++ ds)
  | [], l, h, _, _ => ⟨h, by rw [List.append_nil]; exact List.Perm.refl _⟩
  | d :: ds, l, h, hn, hd => by
    obtain ⟨n1, n2⟩ := List.nodup_cons.1 hn
    obtain ⟨k1, k2⟩ := addAll_acc ds (r16_Add l d) (add_ris h d) n2 fun e he q => by
      rcases add_mem.1 q with z | z
      · exact n1 (z ▸ he)
      · exact hd e (.tail _ he) z
    refine ⟨k1, k2.trans ?_⟩
    refine ((add_perm (hd d (.head _))).append_right ds).trans ?_
    exact (List.perm_middle (l₁ := l) (l₂ := ds) (a := d)).symm
theorem acc_d {m : List rowT} (hs : Up m) {d D : List Nat} (h : Acc d D m) (t : Nat) (x : LockD) : Acc (d ++ gD m t x) (addAll D (gD m t x)) (gR m t x) := by
  have hu := up_put hs t x
  have hm : ∀ n ∈ gD m t x, ∃ r ∈ putR m t x, dies t x r = true ∧ r.xtxn = n := fun n hn => by
    obtain ⟨r, hr, e⟩ := List.mem_map.1 hn
    exact ⟨r, (List.mem_filter.1 hr).1, (List.mem_filter.1 hr).2, e⟩
  have hdw : ∀ {r : rowT}, dies t x r = true → r.xwaits = true := fun {r} q => (Bool.and_eq_true_iff.1 q).1
  have h1 : (gD m t x).Nodup := by
    have : (gD m t x).Pairwise fun a b => a < b := List.pairwise_map.2 (hu.filter _)
    exact this.imp fun q => Nat.ne_of_lt q
  have h2 : ∀ n ∈ gD m t x, n ∉ D := fun n hn q => by
    obtain ⟨r, hr, hd, e⟩ := hm n hn
    rcases mem_put.1 hr with z | z
    · have := h.calm n (h.perm.mem_iff.1 q) r z.1 e; rw [hdw hd] at this; cases this
    · have := hdw hd; rw [z] at this; cases this
  obtain ⟨k1, k2⟩ := addAll_acc (gD m t x) D h.ris h1 h2
  refine ⟨k1, k2.trans (h.perm.append_right _), fun n hn s hs' he => ?_⟩
  cases hw2 : s.xwaits with
  | false => rfl
  | true =>
    obtain ⟨h3, h4⟩ := gR_wait hs' hw2
    rcases List.mem_append.1 hn with q | q
    · have := h.calm n q s h3 he; rw [this] at hw2; cases hw2
    · obtain ⟨r, hr, hd, e⟩ := hm n q
      have e2 := up_inj hu (List.mem_filter.1 hs').1 hr (he.trans e.symm)
      have := (List.mem_filter.1 hs').2
      rw [e2, hd] at this; cases this
theorem sim : ∀ (q q' : Nat) (m : List rowT) (g d : List Nat) (h w : List HeldD) (G D : List Nat), Wt m < q → w.length < q' → Fit m → Mt m h w → Acc g G m → Acc d D m →
    ∃ G' D' h' w', r16_Table_settle_L0 q' D G h w = .inr (G', D', TableDT.mk (Ll.mk h') (Ll.mk w')) ∧ Mt (locks_Table_settle_L0 q m g d).1 h' w' ∧ Acc (locks_Table_settle_L0 q m g d).2.1 G' (locks_Table_settle_L0 q m g d).1 ∧ Acc (locks_Table_settle_L0 q m g d).2.2 D' (locks_Table_settle_L0 q m g d).1
  | 0, _, m, _, _, _, _, _, _, h, _, _, _, _, _ => by omega
  | _ + 1, 0, m, _, _, _, _, _, _, _, h, _, _, _, _ => by omega
  | q + 1, q' + 1, m, g, d, h, w, G, D, hq, hq', hf, hM, hg, hd => by
    have hne := next_eq hM
    cases hn : locks_Table_next (TableT.mk (Ll.mk m)) with
    | mk a b =>
      cases b with
      | false =>
        rw [hn] at hne
        rw [rset_end q' D G h w (by rw [hne])]
        have e : locks_Table_settle_L0 (q + 1) m g d = (m, g, d) := by rw [locks_Table_settle_L0, bnd_eq, if_neg (by rw [hn]; exact fun z => Bool.noConfusion (show false = true from z))]
        rw [e]
        exact ⟨G, D, h, w, rfl, hM, hg, hd⟩
      | true =>
        rw [hn] at hne
        obtain ⟨r, hr, hw, ht, hx, hh⟩ := next_mem hn
        have hs := settle_step hf hn (grant_told hf.up a.xTxn a.xLock (changeT.mk (Ll.mk g) (Ll.mk d)))
        rw [rset_step q' D G h w _ hne]
        simp only
        obtain ⟨h', w', e, hM'⟩ := grant_mt hf.up hM.H a.xTxn a.xLock (w1 := w.filter (notx a.xTxn)) (by rw [hM.W])
        rw [e]
        have e2 : locks_Table_settle_L0 (q + 1) m g d = locks_Table_settle_L0 q (gR m a.xTxn a.xLock) (g ++ [a.xTxn]) (d ++ gD m a.xTxn a.xLock) := by
          rw [locks_Table_settle_L0]
          simp only [bnd_eq, hn, if_true]
          rw [grant_told hf.up]
          rfl
        rw [e2]
        have hw1 : Wt (gR m a.xTxn a.xLock) + 1 ≤ Wt m := hs.2.1
        have hw2 : w'.length = Wt (gR m a.xTxn a.xLock) := by rw [hM'.W, wl_len]
        have hw3 : w.length = Wt m := by rw [hM.W, wl_len]
        have hg' := acc_g hg hr hw a.xLock
        rw [ht] at hg'
        exact sim q q' _ _ _ h' w' _ _ (by omega) (by omega) hs.1 hM' hg' (acc_d hf.up hd a.xTxn a.xLock)
theorem ris_ext : ∀ {a b : List Nat}, Ris a → Ris b → (∀ x, x ∈ a ↔ x ∈ b) → a = b
  | [], [], _, _, _ => rfl
  | [], y :: b, _, _, h => by have := (h y).2 (.head _); cases this
  | x :: a, [], _, _, h => by have := (h x).1 (.head _); cases this
  | x :: a, y :: b, ha, hb, h => by
    obtain ⟨a1, a2⟩ := List.pairwise_cons.1 ha
    obtain ⟨b1, b2⟩ := List.pairwise_cons.1 hb
    have e : x = y := by
      rcases List.mem_cons.1 ((h x).1 (.head _)) with e | hx
      · exact e
      · rcases List.mem_cons.1 ((h y).2 (.head _)) with e | hy
        · exact e.symm
        · have := b1 _ hx; have := a1 _ hy; omega
    subst e
    refine congrArg (x :: ·) (ris_ext a2 b2 fun z => ⟨fun hz => ?_, fun hz => ?_⟩)
    · rcases List.mem_cons.1 ((h z).1 (.tail _ hz)) with e | hz'
      · subst e; exact absurd (a1 _ hz) (Nat.lt_irrefl _)
      · exact hz'
    · rcases List.mem_cons.1 ((h z).2 (.tail _ hz)) with e | hz'
      · subst e; exact absurd (b1 _ hz) (Nat.lt_irrefl _)
      · exact hz'
theorem Acc.srt {g G : List Nat} {m : List rowT} (h : Acc g G m) : srt g = G := by
  have p : (Go.Proofs.Ytggnajpokhaaiaa.srt g).Perm G := (srt_perm g).trans h.perm.symm
  have nd : (Go.Proofs.Ytggnajpokhaaiaa.srt g).Nodup := p.symm.nodup (h.ris.imp fun q => Nat.ne_of_lt q)
  refine ris_ext ?_ h.ris fun x => p.mem_iff
  exact ((srt_sorted g).and nd).imp fun q => Nat.lt_of_le_of_ne q.1 q.2
theorem settle_mt {m : List rowT} {h w : List HeldD} {d D : List Nat} (hf : Fit m) (hM : Mt m h w) (hd : Acc d D m) : ∃ h' w', r16_Table_settle (TableDT.mk (Ll.mk h) (Ll.mk w)) D =
    (srt (locks_Table_settle_L0 (Wt m + 1) m [] d).2.1, srt (locks_Table_settle_L0 (Wt m + 1) m [] d).2.2, TableDT.mk (Ll.mk h') (Ll.mk w')) ∧ Mt (locks_Table_settle_L0 (Wt m + 1) m [] d).1 h' w' := by
  obtain ⟨G', D', h', w', e, k1, k2, k3⟩ := sim (Wt m + 1) (List.length w + 1) m [] d h w [] D (by omega) (by omega) hf hM ⟨List.Pairwise.nil, List.Perm.refl _, fun n hn => by cases hn⟩ hd
  refine ⟨h', w', ?_, k1⟩
  unfold r16_Table_settle
  rw [e, k2.srt, k3.srt]
  rfl
theorem release_mt {m : List rowT} {h w : List HeldD} (hs : Sound m) (hM : Mt m h w) (t : Nat) : ∃ g d m' h' w', locks_Table_Release (TableT.mk (Ll.mk m)) t = (g, d, TableT.mk (Ll.mk m')) ∧ r16_Table_Release (TableDT.mk (Ll.mk h) (Ll.mk w)) t = (g, d, TableDT.mk (Ll.mk h') (Ll.mk w')) ∧ Mt m' h' w' ∧ Sound m' := by
  have hb : Fit (but t m) := hs.fit.filter _
  obtain ⟨h', w', e, hM'⟩ := settle_mt hb (hM.but t) ⟨List.Pairwise.nil, List.Perm.refl _, fun n hn => by cases hn⟩
  have e2 : locks_Table_Release (TableT.mk (Ll.mk m)) t = (srt (locks_Table_settle_L0 (Wt (but t m) + 1) (but t m) [] []).2.1, srt (locks_Table_settle_L0 (Wt (but t m) + 1) (but t m) [] []).2.2, TableT.mk (Ll.mk (locks_Table_settle_L0 (Wt (but t m) + 1) (but t m) [] []).1)) := by
    unfold locks_Table_Release
    rw [bnd_eq, bnd_eq, drop_told hs.up, settle_told]
  refine ⟨_, _, _, h', w', e2, ?_, hM', release_sound hs e2⟩
  unfold r16_Table_Release
  simp only [bnd_eq, wo_eq]
  rw [e]
theorem waits_iff {x : TableDT} {t : Nat} : r16_Table_waits x t = true ↔ ∃ y ∈ x.xW.ls, y.xTxn = t := by
  have go : ∀ l : List HeldD, lp (r16_Table_waits_L0 t l) (fun _ => false) = true ↔ ∃ y ∈ l, y.xTxn = t := by
    intro l
    induction l with
    | nil => exact ⟨fun h => Bool.noConfusion (show false = true from h), fun ⟨y, h, _⟩ => by cases h⟩
    | cons y q ih =>
      rw [r16_Table_waits_L0]
      by_cases c : y.xTxn = t
      · rw [if_pos (by omega)]; exact ⟨fun _ => ⟨y, .head _, c⟩, fun _ => rfl⟩
      · rw [if_neg (by omega), ih]
        constructor
        · rintro ⟨z, hz, e⟩; exact ⟨z, .tail _ hz, e⟩
        · rintro ⟨z, hz, e⟩
          rcases List.mem_cons.1 hz with q | q
          · rw [q] at e; exact absurd e c
          · exact ⟨z, q, e⟩
  exact go _
theorem waiting_iff {m : List rowT} (hs : Up m) (t : Nat) : locks_Table_waiting (TableT.mk (Ll.mk m)) t = true ↔ ∃ r ∈ m, r.xtxn = t ∧ r.xwaits = true := by
  unfold locks_Table_waiting
  rw [bnd_eq]
  rcases find_two hs t with ⟨a, p, q, rfl, hp, ha, hq, hf⟩ | ⟨a, q, rfl, ha, hq, hf⟩
  · rw [hf, if_pos rfl, bnd_eq]
    simp only [Int.toNat_natCast, gd]
    constructor
    · intro h; exact ⟨p, by simp, hp, h⟩
    · rintro ⟨r, hr, ht, hw⟩
      rw [← up_inj hs hr (by simp) (ht.trans hp.symm)]; exact hw
  · rw [hf, if_neg (by simp)]
    refine ⟨fun h => Bool.noConfusion h, ?_⟩
    rintro ⟨r, hr, ht, hw⟩
    rcases List.mem_append.1 hr with h | h
    · have := ha r h; omega
    · have := hq r h; omega
theorem wait_mt {m : List rowT} {h w : List HeldD} (hs : Up m) (hM : Mt m h w) (t : Nat) : (r16_Table_waits (TableDT.mk (Ll.mk h) (Ll.mk w)) t = true) = (locks_Table_waiting (TableT.mk (Ll.mk m)) t = true) := by
  refine propext ?_
  rw [waits_iff, waiting_iff hs]
  show (∃ y ∈ w, y.xTxn = t) ↔ _
  rw [hM.W]
  constructor
  · rintro ⟨y, hy, e⟩
    obtain ⟨r, hr, hw, e2⟩ := mem_wl.1 hy
    exact ⟨r, hr, by rw [← e, ← e2], hw⟩
  · rintro ⟨r, hr, e, hw⟩
    exact ⟨_, mem_wl.2 ⟨r, hr, hw, rfl⟩, e⟩
def cov (x y : LockD) : Bool := span_Covers y.xRange x.xRange && (y.xWrite || !x.xWrite)
theorem hasin (x : LockD) (l : List LockD) : slices_ContainsFunc_api_Lock_api_Lock l x = l.any (cov x) := by
  have go : ∀ (l : List LockD) (k : Nat), (slices_IndexFunc_api_Lock_api_Lock_L0 x l k = .inl () ∧ l.any (cov x) = false) ∨ (∃ j : Nat, slices_IndexFunc_api_Lock_api_Lock_L0 x l k = .inr (j : Int) ∧ l.any (cov x) = true) := by
    intro l
    induction l with
    | nil => intro k; exact .inl ⟨rfl, rfl⟩
    | cons y l ih =>
      intro k
      rw [slices_IndexFunc_api_Lock_api_Lock_L0, bnd_eq, List.any_cons]
      have rest : cov x y = false → ((slices_IndexFunc_api_Lock_api_Lock_L0 x l (k + 1) = .inl () ∧ (cov x y || l.any (cov x)) = false) ∨ (∃ j : Nat, slices_IndexFunc_api_Lock_api_Lock_L0 x l (k + 1) = .inr (j : Int) ∧ (cov x y || l.any (cov x)) = true)) := fun hc => by
        rw [hc, Bool.false_or]; exact ih (k + 1)
      by_cases c1 : span_Covers y.xRange x.xRange = true
      · rw [if_pos c1]
        by_cases c2 : y.xWrite = true
        · rw [if_pos c2]; exact .inr ⟨k, rfl, by unfold cov; rw [c1, c2]; rfl⟩
        · rw [if_neg c2]
          by_cases c3 : x.xWrite = true
          · rw [if_pos c3]; exact rest (by unfold cov; rw [c1, Bool.eq_false_iff.2 c2, c3]; rfl)
          · rw [if_neg c3]; exact .inr ⟨k, rfl, by unfold cov; rw [c1, Bool.eq_false_iff.2 c2, Bool.eq_false_iff.2 c3]; rfl⟩
      · rw [if_neg c1]; exact rest (by unfold cov; rw [Bool.eq_false_iff.2 c1]; rfl)
  unfold slices_ContainsFunc_api_Lock_api_Lock slices_IndexFunc_api_Lock_api_Lock
  rw [bnd_eq]
  rcases go l 0 with ⟨e, f⟩ | ⟨j, e, f⟩
  · rw [e, f]; rfl
  · rw [e, f]; exact decide_eq_true (show ((j : Nat) : Int) ≥ 0 by omega)
theorem has_told {m : List rowT} (hs : Up m) (t : Nat) (x : LockD) : locks_Table_has (TableT.mk (Ll.mk m)) t x = (old m t).any (cov x) := by
  have fa : ∀ {l : List rowT} {f : rowT → Bool}, (∀ r ∈ l, f r = false) → l.filter f = [] := fun {l f} h => List.filter_eq_nil_iff.2 fun r hr => by rw [h r hr]; decide
  unfold locks_Table_has old
  rw [bnd_eq]
  rcases find_two hs t with ⟨a, p, q, rfl, hp, ha, hq, hf⟩ | ⟨a, q, rfl, ha, hq, hf⟩
  · rw [hf, if_pos rfl, bnd_eq, bnd_eq, List.filter_append, List.filter_cons_of_pos (by simp [hp]), fa (l := a) (fun r hr => decide_eq_false (by have := ha r hr; omega)), fa (l := q) (fun r hr => decide_eq_false (by have := hq r hr; omega))]
    simp only [Int.toNat_natCast, gd]
    rw [hasin]
    simp
  · rw [hf, if_neg (by simp), List.filter_append, fa (l := a) (fun r hr => decide_eq_false (by have := ha r hr; omega)), fa (l := q) (fun r hr => decide_eq_false (by have := hq r hr; omega))]
    rfl
def hasB (t : Nat) (x : LockD) (y : HeldD) : Bool := decide (y.xTxn = t) && cov x y.xLock
def eldB (t : Nat) (x : LockD) (y : HeldD) : Bool := r16_Way y (HeldD.mk t x) && decide (y.xTxn < t)
theorem askL (p0 : TableDT) (t : Nat) (x : LockD) : ∀ (q : List HeldD) (b : Bool), r16_Table_Ask_L0 p0 t x q b = cond (q.any (hasB t x)) (.inr (1, [], [], 0, p0)) (.inl (b && !(q.any (eldB t x))))
  | [], b => by rw [r16_Table_Ask_L0]; simp
  | y :: q, b => by
    have ih := askL p0 t x q
    rw [r16_Table_Ask_L0]
    simp only [bnd_eq, List.any_cons, ← cov_eq]
    by_cases c1 : y.xTxn = t
    · have e1 : eldB t x y = false := by unfold eldB; rw [decide_eq_false (by omega), Bool.and_false]
      rw [if_pos (by omega), e1, Bool.false_or]
      by_cases c2 : span_Covers y.xLock.xRange x.xRange = true
      · rw [if_pos c2]
        by_cases c3 : y.xLock.xWrite = true
        · have e2 : hasB t x y = true := by unfold hasB cov; rw [c2, c3, decide_eq_true c1]; rfl
          rw [if_pos c3, e2]; rfl
        · rw [if_neg c3]
          by_cases c4 : x.xWrite = true
          · have e2 : hasB t x y = false := by unfold hasB cov; rw [c2, Bool.eq_false_iff.2 c3, c4]; simp
            rw [if_pos c4, e2, Bool.false_or, ih, ite_self]
          · have e2 : hasB t x y = true := by unfold hasB cov; rw [c2, Bool.eq_false_iff.2 c3, Bool.eq_false_iff.2 c4, decide_eq_true c1]; rfl
            rw [if_neg c4, e2]; rfl
      · have e2 : hasB t x y = false := by unfold hasB cov; rw [Bool.eq_false_iff.2 c2]; simp
        rw [if_neg c2, e2, Bool.false_or, ih, ite_self]
    · have e2 : hasB t x y = false := by unfold hasB; rw [decide_eq_false c1]; rfl
      rw [if_neg (by omega), e2, Bool.false_or]
      by_cases c2 : r16_Way y (HeldD.mk t x) = true
      · rw [if_pos c2]
        by_cases c3 : y.xTxn < t
        · have e3 : eldB t x y = true := by unfold eldB; rw [c2, decide_eq_true c3]; rfl
          rw [if_pos (by omega), e3, ih]; simp
        · have e3 : eldB t x y = false := by unfold eldB; rw [decide_eq_false c3, Bool.and_false]
          rw [if_neg (by omega), e3, Bool.false_or, ih]
      · have e3 : eldB t x y = false := by unfold eldB; rw [Bool.eq_false_iff.2 c2]; rfl
        rw [if_neg c2, e3, Bool.false_or, ih]
theorem has_mt {m : List rowT} {h w : List HeldD} (hs : Up m) (hM : Mt m h w) (t : Nat) (x : LockD) : (h.any (hasB t x) = true) = (locks_Table_has (TableT.mk (Ll.mk m)) t x = true) := by
  refine propext ?_
  rw [has_told hs, List.any_eq_true, List.any_eq_true]
  constructor
  · rintro ⟨y, hy, e⟩
    obtain ⟨e1, e2⟩ := Bool.and_eq_true_iff.1 e
    obtain ⟨r, hr, ht, hl⟩ := hM.mem.1 hy
    exact ⟨y.xLock, mem_old.2 ⟨r, hr, ht.trans (of_decide_eq_true e1), hl⟩, e2⟩
  · rintro ⟨l, hl, e⟩
    obtain ⟨r, hr, ht, hl⟩ := mem_old.1 hl
    exact ⟨HeldD.mk t l, hM.mem.2 ⟨r, hr, ht, hl⟩, by unfold hasB; rw [e]; simp⟩
theorem eld_mt {m : List rowT} {h w : List HeldD} (hs : Up m) (hM : Mt m h w) (t : Nat) (x : LockD) (hh : locks_Table_holders (TableT.mk (Ll.mk m)) t x ≠ []) : (h.any (eldB t x) = true) = (List.getD (locks_Table_holders (TableT.mk (Ll.mk m)) t x) 0 default < t) := by
  refine propext ?_
  rw [holders_told] at hh ⊢
  have hup : Up (m.filter (inw t x)) := hs.filter _
  cases hf : m.filter (inw t x) with
  | nil => rw [hf] at hh; exact absurd rfl hh
  | cons r0 rest =>
    rw [hf] at hup
    have h0 : r0 ∈ m.filter (inw t x) := by rw [hf]; exact .head _
    show _ ↔ r0.xtxn < t
    rw [List.any_eq_true]
    constructor
    · rintro ⟨y, hy, e⟩
      obtain ⟨e1, e2⟩ := Bool.and_eq_true_iff.1 e
      rw [way_eq] at e1
      obtain ⟨e3, e4⟩ := Bool.and_eq_true_iff.1 e1
      obtain ⟨r, hr, ht, hl⟩ := hM.mem.1 hy
      have h1 : r ∈ m.filter (inw t x) := List.mem_filter.2 ⟨hr, by unfold inw; rw [ht, show decide (y.xTxn ≠ t) = true from e3, List.any_eq_true.2 ⟨_, hl, by rw [clash_comm]; exact e4⟩]; rfl⟩
      rw [hf] at h1
      have h2 := of_decide_eq_true e2
      rcases List.mem_cons.1 h1 with q | q
      · rw [← q, ht]; exact h2
      · have := (List.pairwise_cons.1 hup).1 r q; omega
    · intro hlt
      obtain ⟨h1, h2⟩ := List.mem_filter.1 h0
      obtain ⟨h3, h4⟩ := Bool.and_eq_true_iff.1 h2
      obtain ⟨l, hl, hc⟩ := List.any_eq_true.1 h4
      exact ⟨HeldD.mk r0.xtxn l, hM.mem.2 ⟨r0, h1, rfl, hl⟩, by unfold eldB; rw [way_eq]; simp only; rw [h3, clash_comm, hc, decide_eq_true hlt]; rfl⟩
theorem waitR_mt {m : List rowT} {h w : List HeldD} (hs : Up m) (hM : Mt m h w) (t : Nat) (x : LockD) (hw : ¬ locks_Table_waiting (TableT.mk (Ll.mk m)) t = true) : ∃ w', r16_Table_wait (TableDT.mk (Ll.mk h) (Ll.mk w)) (HeldD.mk t x) = TableDT.mk (Ll.mk h) (Ll.mk w') ∧ Mt (waitR m t x) h w' := by
  obtain ⟨u, v, e1, e2, e3, e4⟩ := rwait (TableDT.mk (Ll.mk h) (Ll.mk w)) (HeldD.mk t x)
  refine ⟨u ++ HeldD.mk t x :: v, e4, fun s => ?_, ?_⟩
  · rw [hM.H]
    congr 1
    have k1 := old_filter (fun n => decide (n < t)) m s
    have k2 := old_filter (fun n => decide (t < n)) m s
    unfold waitR
    unfold old at k1 k2 ⊢
    rw [List.filter_append, List.flatMap_append, k1]
    by_cases c : s = t
    · subst c
      rw [if_neg (by simp), List.filter_cons_of_pos (by simp), List.flatMap_cons, k2, if_neg (by simp), List.append_nil]
      rfl
    · rw [List.filter_cons_of_neg (by simp; omega), k2]
      rcases Nat.lt_or_gt_of_ne c with d | d
      · rw [if_pos (decide_eq_true d), if_neg (by simp; omega), List.append_nil]
      · rw [if_neg (by simp; omega), if_pos (decide_eq_true d), List.nil_append]
  · replace e1 : w = u ++ v := e1
    have hwl : wl m = u ++ v := by rw [← hM.W, e1]
    have hp := wl_up hs
    rw [hwl] at hp
    obtain ⟨p1, p2, p3⟩ := List.pairwise_append.1 hp
    have hnt : ∀ y ∈ u ++ v, y.xTxn ≠ t := fun y hy q => by
      rw [← hwl] at hy
      obtain ⟨r, hr, hw2, e⟩ := mem_wl.1 hy
      exact hw ((waiting_iff hs t).2 ⟨r, hr, by rw [← q, ← e], hw2⟩)
    have hv : ∀ y ∈ v, t < y.xTxn := fun y hy => by
      have h1 := hnt y (List.mem_append_right _ hy)
      cases v with
      | nil => cases hy
      | cons z v' =>
        have h2 : ¬ z.xTxn < t := e3 z v' rfl
        rcases List.mem_cons.1 hy with q | q
        · rw [q] at h1 ⊢; omega
        · have := (List.pairwise_cons.1 p2).1 y q; omega
    have hu : ∀ y ∈ u, y.xTxn < t := e2
    have k1 : wl (m.filter fun r => decide (r.xtxn < t)) = u := by
      rw [wl_filter (fun n => decide (n < t)), hwl, List.filter_append, filt_id fun y hy => decide_eq_true (hu y hy), List.filter_eq_nil_iff.2 fun y hy => by have := hv y hy; simp; omega, List.append_nil]
    have k2 : wl (m.filter fun r => decide (t < r.xtxn)) = v := by
      rw [wl_filter (fun n => decide (t < n)), hwl, List.filter_append, filt_id (l := v) fun y hy => decide_eq_true (hv y hy), List.filter_eq_nil_iff.2 fun y hy => by have := hu y hy; simp; omega, List.nil_append]
    unfold waitR
    rw [wl_app, k1]
    congr 1
    have k3 : wl (rowT.mk t (Ll.mk (old m t)) true x :: m.filter fun r => decide (t < r.xtxn)) = HeldD.mk t x :: wl (m.filter fun r => decide (t < r.xtxn)) := by unfold wl; rw [List.filter_cons_of_pos rfl]; rfl
    rw [k3, k2]
theorem ask_mt {m : List rowT} {h w : List HeldD} (hs : Sound m) (hM : Mt m h w) (t : Nat) (x : LockD) : ∃ h' w', r16_Table_Ask (TableDT.mk (Ll.mk h) (Ll.mk w)) t x = ((askM m t x).1, (askM m t x).2.1, (askM m t x).2.2.1, (askM m t x).2.2.2.1, TableDT.mk (Ll.mk h') (Ll.mk w')) ∧ Mt (askM m t x).2.2.2.2 h' w' := by
  unfold r16_Table_Ask askM
  simp only [bnd_eq, ← sc_eq, wait_mt hs.up hM, askL, Bool.true_and]
  by_cases c1 : span_Check x.xRange = 0
  · rw [if_pos c1, if_pos c1]
    by_cases c2 : locks_Table_waiting (TableT.mk (Ll.mk m)) t = true
    · rw [if_pos c2, if_pos c2]; exact ⟨h, w, rfl, hM⟩
    · rw [if_neg c2, if_neg c2]
      by_cases c3 : locks_Table_has (TableT.mk (Ll.mk m)) t x = true
      · have c3' : h.any (hasB t x) = true := by rw [has_mt hs.up hM]; exact c3
        rw [if_pos c3, c3']; exact ⟨h, w, rfl, hM⟩
      · have c3' : h.any (hasB t x) = false := Bool.eq_false_iff.2 fun q => c3 (has_mt hs.up hM t x ▸ q)
        rw [if_neg c3, c3']
        simp only [lp, cond]
        have hlen := hM.len
        by_cases c4 : 192 ≤ Tot m
        · rw [if_pos c4, if_pos (by omega)]; exact ⟨h, w, rfl, hM⟩
        · rw [if_neg c4, if_neg (by omega)]
          have hfe := free_eq hM t x
          by_cases c5 : locks_Table_holders (TableT.mk (Ll.mk m)) t x = []
          · rw [if_pos c5, if_pos (hfe.2 c5)]
            obtain ⟨h1, w1, e1, hM1⟩ := grant_mt hs.up hM.H t x (w1 := w) (by
              rw [hM.W]
              exact (filt_id fun y hy => by unfold notx; exact decide_eq_true (show y.xTxn ≠ t from fun q => c2 ((waiting_iff hs.up t).2 (by obtain ⟨r, hr, hw, e⟩ := mem_wl.1 hy; exact ⟨r, hr, by rw [← q, ← e], hw⟩)))).symm)
            rw [e1]
            have hg : (gD m t x).Pairwise fun a b => a < b := List.pairwise_map.2 ((up_put hs.up t x).filter _)
            obtain ⟨k2, k3⟩ := put_tot m hs.up t x
            have k4 : Ne (putR m t x) := ne_put hs.up hs.ne t x
            have k5 : Tot (gR m t x) ≤ 192 := Nat.le_trans (sum_filter _ _) (show Tot (putR m t x) ≤ 192 by omega)
            have k6 : Ne (gR m t x) := ne_filter k4 _
            have hf : Fit (gR m t x) := ⟨(up_put hs.up t x).filter _, show List.length (gR m t x) ≤ 999999 by have := ne_len k6; omega, show Tot (gR m t x) ≤ 1000000 by omega⟩
            have h0 : Acc [] [] m := ⟨List.Pairwise.nil, List.Perm.refl _, fun n hn => by cases hn⟩
            have hd := acc_d hs.up h0 t x
            have hd2 : Acc (gD m t x) (gD m t x) (gR m t x) := ⟨hg, List.Perm.refl _, fun n hn => hd.calm n (List.mem_append_right _ hn)⟩
            obtain ⟨h2, w2, e2, hM2⟩ := settle_mt hf hM1 hd2
            simp only
            rw [e2]
            exact ⟨h2, w2, rfl, hM2⟩
          · rw [if_neg c5, if_neg (fun q => c5 (hfe.1 q))]
            have he := eld_mt hs.up hM t x c5
            by_cases c6 : List.getD (locks_Table_holders (TableT.mk (Ll.mk m)) t x) 0 default < t
            · rw [if_pos c6, if_neg]
              · exact ⟨h, w, rfl, hM⟩
              · have c6' : h.any (eldB t x) = true := by rw [he]; exact c6
                rw [c6']; decide
            · rw [if_neg c6, if_pos]
              · obtain ⟨w', e, hM'⟩ := waitR_mt hs.up hM t x c2
                rw [e]; exact ⟨h, w', rfl, hM'⟩
              · have : h.any (eldB t x) = false := Bool.eq_false_iff.2 fun q => c6 (he ▸ q)
                rw [this]; rfl
  · rw [if_neg c1, if_neg c1]; exact ⟨h, w, rfl, hM⟩
end Go.Proofs.Ytggnajpokhaaiaa
