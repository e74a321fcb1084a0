/-
  The document's answers as mathematics: numbers added, what a grant leaves, how much settling keeps. Conditions: none beyond each law's own.
-/
import Derived.Test.YtggnajpokhaaiaaLs
namespace Go.Proofs.Ytggnajpokhaaiaa
set_option linter.unusedVariables false
set_option linter.unusedSimpArgs false
def Ris (l : List Nat) : Prop := l.Pairwise fun a b => a < b
theorem addpos (n : Nat) : ∀ (l : List Nat) (k : Nat), ∃ a b, l = a ++ b ∧ (∀ x ∈ a, x < n) ∧ (∀ y b', b = y :: b' → ¬ y < n) ∧ r16_Add_L0 n l k = k + a.length
  | [], k => ⟨[], [], rfl, fun _ h => (by cases h), fun _ _ h => (by cases h), rfl⟩
  | x :: q, k => by
    rw [r16_Add_L0]
    by_cases h : x < n
    · obtain ⟨a, b, e, h1, h2, h3⟩ := addpos n q (k + 1)
      refine ⟨x :: a, b, by rw [e]; rfl, fun y hy => ?_, h2, ?_⟩
      · rcases List.mem_cons.1 hy with e | e
        · rw [e]; exact h
        · exact h1 y e
      · rw [if_pos (by omega), h3, List.length_cons]; omega
    · exact ⟨[], x :: q, rfl, fun _ h => (by cases h), fun y b' e => by cases e; exact h, by rw [if_neg (by omega)]; rfl⟩
theorem add_cases (l : List Nat) (n : Nat) : ∃ a b, l = a ++ b ∧ (∀ x ∈ a, x < n) ∧ ((b = [] ∧ r16_Add l n = a ++ [n]) ∨ (∃ b', b = n :: b' ∧ r16_Add l n = l) ∨ (∃ y b', b = y :: b' ∧ n < y ∧ r16_Add l n = a ++ n :: b)) := by
  obtain ⟨a, b, e, h1, h2, h3⟩ := addpos n l 0
  refine ⟨a, b, e, h1, ?_⟩
  unfold r16_Add
  simp only [bnd_eq, h3, Nat.zero_add]
  subst e
  rw [show List.take a.length (a ++ b) = a from List.take_left' rfl, show List.drop a.length (a ++ b) = b from List.drop_left' rfl]
  cases b with
  | nil => exact .inl ⟨rfl, by rw [if_neg (by simp)]; simp⟩
  | cons y b' =>
    have h4 := h2 y b' rfl
    rw [if_pos (by simp only [List.length_append, List.length_cons]; omega), gd]
    by_cases h5 : y = n
    · exact .inr (.inl ⟨b', by rw [h5], by rw [if_pos (by omega)]⟩)
    · exact .inr (.inr ⟨y, b', rfl, by omega, by rw [if_neg (by omega)]; simp⟩)
theorem add_len (l : List Nat) (n : Nat) : (r16_Add l n).length ≤ l.length + 1 := by
  obtain ⟨a, b, e, h1, ⟨e1, e2⟩ | ⟨b', e1, e2⟩ | ⟨y, b', e1, h, e2⟩⟩ := add_cases l n
  · rw [e2, e, e1]; simp
  · rw [e2]; omega
  · rw [e2, e]; simp only [List.length_append, List.length_cons]; omega
theorem add_mem {l : List Nat} {n x : Nat} : x ∈ r16_Add l n ↔ x = n ∨ x ∈ l := by
  obtain ⟨a, b, e, h1, ⟨e1, e2⟩ | ⟨b', e1, e2⟩ | ⟨y, b', e1, h, e2⟩⟩ := add_cases l n
  · rw [e2, e, e1]; simp; exact Or.comm
  · rw [e2, e, e1]
    constructor
    · exact .inr
    · rintro (h | h)
      · rw [h]; simp
      · exact h
  · rw [e2, e]
    simp only [List.mem_append, List.mem_cons]
    constructor
    · rintro (h | h | h)
      · exact .inr (.inl h)
      · exact .inl h
      · exact .inr (.inr h)
    · rintro (h | h | h)
      · exact .inr (.inl h)
      · exact .inl h
      · exact .inr (.inr h)
theorem add_ris {l : List Nat} (hl : Ris l) (n : Nat) : Ris (r16_Add l n) := by
  obtain ⟨a, b, e, h1, ⟨e1, e2⟩ | ⟨b', e1, e2⟩ | ⟨y, b', e1, h, e2⟩⟩ := add_cases l n
  · rw [e2]
    rw [e, e1, List.append_nil] at hl
    exact List.pairwise_append.2 ⟨hl, List.pairwise_singleton _ _, fun x hx y hy => by rw [List.mem_singleton.1 hy]; exact h1 x hx⟩
  · rw [e2]; exact hl
  · rw [e2]
    rw [e, e1] at hl
    rw [e1]
    obtain ⟨p1, p2, p3⟩ := List.pairwise_append.1 hl
    have p4 := List.pairwise_cons.1 p2
    refine List.pairwise_append.2 ⟨p1, List.pairwise_cons.2 ⟨fun z hz => ?_, p2⟩, fun x hx z hz => ?_⟩
    · rcases List.mem_cons.1 hz with q | q
      · rw [q]; exact h
      · exact Nat.lt_trans h (p4.1 z q)
    · rcases List.mem_cons.1 hz with q | q
      · rw [q]; exact h1 x hx
      · exact p3 x hx z q
theorem add_perm {l : List Nat} {n : Nat} (hn : n ∉ l) : (r16_Add l n).Perm (n :: l) := by
  obtain ⟨a, b, e, h1, ⟨e1, e2⟩ | ⟨b', e1, e2⟩ | ⟨y, b', e1, h, e2⟩⟩ := add_cases l n
  · rw [e2, e, e1, List.append_nil]; exact List.perm_append_comm (l₁ := a) (l₂ := [n])
  · exact absurd (by rw [e, e1]; simp) hn
  · rw [e2, e]; exact List.perm_middle
theorem add_end {l : List Nat} {n : Nat} (h : ∀ x ∈ l, x < n) : r16_Add l n = l ++ [n] := by
  obtain ⟨a, b, e, h1, ⟨e1, e2⟩ | ⟨b', e1, e2⟩ | ⟨y, b', e1, h', e2⟩⟩ := add_cases l n
  · rw [e2, e, e1, List.append_nil]
  · have := h n (by rw [e, e1]; simp); omega
  · have := h y (by rw [e, e1]; simp); omega
def addAll (l ds : List Nat) : List Nat := ds.foldl r16_Add l
theorem setL1 (z1 : TableDT) (z2 : List Nat) : ∀ (ds l : List Nat), r16_Table_settle_L1 z1 z2 ds l = addAll l ds
  | [], l => rfl
  | d :: ds, l => by rw [r16_Table_settle_L1, bnd_eq, setL1 z1 z2 ds]; rfl
theorem addAll_len : ∀ (ds l : List Nat), (addAll l ds).length ≤ l.length + ds.length
  | [], l => Nat.le_refl _
  | d :: ds, l => by
    have h1 := addAll_len ds (r16_Add l d)
    have h2 := add_len l d
    show (addAll (r16_Add l d) ds).length ≤ _
    simp only [List.length_cons]; omega
def notin (ds : List Nat) (h : HeldD) : Bool := decide (h.xTxn ∉ ds)
theorem rgL1 (z : List Nat) : ∀ (ds : List Nat) (h w : List HeldD), r16_Table_grant_L1 z ds h w = (h.filter (notin ds), w.filter (notin ds))
  | [], h, w => by
    have e : ∀ l : List HeldD, l.filter (notin []) = l := fun l => List.filter_eq_self.2 fun x _ => by simp [notin]
    rw [r16_Table_grant_L1, e, e]
  | d :: ds, h, w => by
    have e : ∀ l : List HeldD, (l.filter (notx d)).filter (notin ds) = l.filter (notin (d :: ds)) := fun l => by
      rw [List.filter_filter]
      congr 1
      funext x
      unfold notin notx
      rw [← Bool.decide_and]
      simp only [List.mem_cons, not_or]
      exact decide_eq_decide.2 ⟨fun h => ⟨h.2, h.1⟩, fun h => ⟨h.2, h.1⟩⟩
    rw [r16_Table_grant_L1, bnd_eq, bnd_eq, wo_eq, wo_eq, rgL1 z ds, e, e]
def rdead (x w : HeldD) : Bool := decide (x.xTxn < w.xTxn) && r16_Way w x
theorem rgL0_step (p0 : TableDT) (x y : HeldD) (q : List HeldD) (acc : List Nat) : r16_Table_grant_L0 p0 x (y :: q) acc = r16_Table_grant_L0 p0 x q (if rdead x y = true then r16_Add acc y.xTxn else acc) := by
  rw [r16_Table_grant_L0]
  unfold rdead
  by_cases h1 : x.xTxn < y.xTxn
  · rw [if_pos (by omega), bnd_eq]
    by_cases h2 : r16_Way y x = true
    · rw [if_pos h2, bnd_eq, if_pos (by rw [decide_eq_true h1, h2]; rfl)]
    · rw [if_neg h2, if_neg (by rw [Bool.eq_false_iff.2 h2]; simp)]
  · rw [if_neg (by omega), if_neg (by rw [decide_eq_false h1]; simp)]
theorem rgL0_len (p0 : TableDT) (x : HeldD) : ∀ (q : List HeldD) (acc : List Nat), (r16_Table_grant_L0 p0 x q acc).length ≤ acc.length + q.length
  | [], acc => Nat.le_refl _
  | y :: q, acc => by
    rw [rgL0_step]
    have h1 := rgL0_len p0 x q (if rdead x y = true then r16_Add acc y.xTxn else acc)
    have h2 := add_len acc y.xTxn
    simp only [List.length_cons]
    split at h1 <;> split <;> simp_all <;> omega
theorem rgrant (h w : List HeldD) (x : HeldD) : r16_Table_grant (TableDT.mk (Ll.mk h) (Ll.mk w)) x =
    (r16_Table_grant_L0 (TableDT.mk (Ll.mk h) (Ll.mk w)) x w [], TableDT.mk (Ll.mk ((h ++ [x]).filter (notin (r16_Table_grant_L0 (TableDT.mk (Ll.mk h) (Ll.mk w)) x w [])))) (Ll.mk (w.filter (notin (r16_Table_grant_L0 (TableDT.mk (Ll.mk h) (Ll.mk w)) x w []))))) := by
  unfold r16_Table_grant
  simp only [bnd_eq, rgL1]
theorem rset_step (q : Nat) (d g : List Nat) (h w : List HeldD) (a : HeldD) (hn : r16_Table_next (TableDT.mk (Ll.mk h) (Ll.mk w)) = (a, true)) : r16_Table_settle_L0 (q + 1) d g h w =
    r16_Table_settle_L0 q (addAll d (r16_Table_grant (TableDT.mk (Ll.mk h) (Ll.mk (w.filter (notx a.xTxn)))) a).1) (r16_Add g a.xTxn) (r16_Table_grant (TableDT.mk (Ll.mk h) (Ll.mk (w.filter (notx a.xTxn)))) a).2.xH.ls (r16_Table_grant (TableDT.mk (Ll.mk h) (Ll.mk (w.filter (notx a.xTxn)))) a).2.xW.ls := by
  rw [r16_Table_settle_L0]
  simp only [bnd_eq, hn, if_true, wo_eq, setL1]
theorem rset_end (q : Nat) (d g : List Nat) (h w : List HeldD) (hn : (r16_Table_next (TableDT.mk (Ll.mk h) (Ll.mk w))).2 = false) : r16_Table_settle_L0 (q + 1) d g h w = .inr (g, d, TableDT.mk (Ll.mk h) (Ll.mk w)) := by
  rw [r16_Table_settle_L0]
  simp only [bnd_eq, hn, Bool.false_eq_true, if_false]
theorem rset_small : ∀ (q : Nat) (d g : List Nat) (h w : List HeldD), w.length < q → w.length ≤ 400 → ∃ g' d' h' w', r16_Table_settle_L0 q d g h w = .inr (g', d', TableDT.mk (Ll.mk h') (Ll.mk w')) ∧ h'.length + w'.length ≤ h.length + w.length ∧ g'.length ≤ g.length + w.length ∧ d'.length ≤ d.length + 400 * w.length
  | 0, d, g, h, w, hq, _ => by omega
  | q + 1, d, g, h, w, hq, hw => by
    cases hn : r16_Table_next (TableDT.mk (Ll.mk h) (Ll.mk w)) with
    | mk a b =>
      cases b with
      | false => exact ⟨g, d, h, w, rset_end q d g h w (by rw [hn]), Nat.le_refl _, by omega, by omega⟩
      | true =>
        have h1 := wo_lt hn rfl rfl
        rw [wo_eq] at h1
        replace h1 : (w.filter (notx a.xTxn)).length + 1 ≤ w.length := h1
        generalize hw1 : w.filter (notx a.xTxn) = w1 at h1
        rw [rset_step q d g h w a hn, hw1, rgrant]
        generalize hD : r16_Table_grant_L0 (TableDT.mk (Ll.mk h) (Ll.mk w1)) a w1 [] = D
        have h2 : D.length ≤ w1.length := by have := rgL0_len (TableDT.mk (Ll.mk h) (Ll.mk w1)) a w1 []; rw [hD] at this; simp only [List.length_nil] at this; omega
        have h3 := List.length_filter_le (notin D) (h ++ [a])
        have h4 := List.length_filter_le (notin D) w1
        rw [List.length_append, List.length_cons, List.length_nil] at h3
        obtain ⟨g', d', h', w', e, k1, k2, k3⟩ := rset_small q (addAll d D) (r16_Add g a.xTxn) ((h ++ [a]).filter (notin D)) (w1.filter (notin D)) (by omega) (by omega)
        have h5 := addAll_len D d
        have h6 := add_len g a.xTxn
        exact ⟨g', d', h', w', e, by omega, by omega, by omega⟩
theorem rsettle_small {x : TableDT} {l g d : List Nat} {r : TableDT} (hw : List.length x.xW.ls ≤ 400) (hr : r16_Table_settle x l = (g, d, r)) : List.length r.xH.ls + List.length r.xW.ls ≤ List.length x.xH.ls + List.length x.xW.ls ∧ List.length g ≤ List.length x.xW.ls ∧ List.length d ≤ List.length l + 400 * List.length x.xW.ls := by
  obtain ⟨g', d', h', w', e, k1, k2, k3⟩ := rset_small (List.length x.xW.ls + 1) l [] x.xH.ls x.xW.ls (by omega) hw
  unfold r16_Table_settle at hr
  rw [e] at hr
  obtain ⟨rfl, hr2⟩ := Prod.mk.inj (show (g', d', TableDT.mk (Ll.mk h') (Ll.mk w')) = (g, d, r) from hr)
  obtain ⟨rfl, rfl⟩ := Prod.mk.inj hr2
  refine ⟨k1, ?_, k3⟩
  simp only [List.length_nil] at k2; omega
theorem rrel_small {x : TableDT} {t : Nat} {g d : List Nat} {r : TableDT} (hx : List.length x.xH.ls + List.length x.xW.ls ≤ 192) (hr : r16_Table_Release x t = (g, d, r)) : List.length r.xH.ls + List.length r.xW.ls ≤ 192 ∧ List.length g ≤ 1000000 ∧ List.length d ≤ 1000000 := by
  unfold r16_Table_Release at hr
  simp only [bnd_eq, wo_eq] at hr
  have h1 := List.length_filter_le (notx t) x.xH.ls
  have h2 := List.length_filter_le (notx t) x.xW.ls
  have h3 := rsettle_small (x := TableDT.mk (Ll.mk (x.xH.ls.filter (notx t))) (Ll.mk (x.xW.ls.filter (notx t)))) (l := []) (g := g) (d := d) (r := r) (show List.length (x.xW.ls.filter (notx t)) ≤ 400 by omega) hr
  obtain ⟨k1, k2, k3⟩ := h3
  replace k1 : List.length r.xH.ls + List.length r.xW.ls ≤ List.length (x.xH.ls.filter (notx t)) + List.length (x.xW.ls.filter (notx t)) := k1
  replace k2 : List.length g ≤ List.length (x.xW.ls.filter (notx t)) := k2
  replace k3 : List.length d ≤ List.length ([] : List Nat) + 400 * List.length (x.xW.ls.filter (notx t)) := k3
  simp only [List.length_nil] at k3
  exact ⟨by omega, by omega, by omega⟩
theorem rwait (x : TableDT) (a : HeldD) : ∃ u v, x.xW.ls = u ++ v ∧ (∀ y ∈ u, y.xTxn < a.xTxn) ∧ (∀ y v', v = y :: v' → ¬ y.xTxn < a.xTxn) ∧ r16_Table_wait x a = TableDT.mk (Ll.mk x.xH.ls) (Ll.mk (u ++ a :: v)) := by
  have go : ∀ (l : List HeldD) (k : Nat), ∃ u v, l = u ++ v ∧ (∀ y ∈ u, y.xTxn < a.xTxn) ∧ (∀ y v', v = y :: v' → ¬ y.xTxn < a.xTxn) ∧ r16_Table_wait_L0 a l k = k + u.length := by
    intro l
    induction l with
    | nil => intro k; exact ⟨[], [], rfl, fun _ h => (by cases h), fun _ _ h => (by cases h), rfl⟩
    | cons y q ih =>
      intro k
      rw [r16_Table_wait_L0]
      by_cases h : y.xTxn < a.xTxn
      · obtain ⟨u, v, e, h1, h2, h3⟩ := ih (k + 1)
        refine ⟨y :: u, v, by rw [e]; rfl, fun z hz => ?_, h2, ?_⟩
        · rcases List.mem_cons.1 hz with e | e
          · rw [e]; exact h
          · exact h1 z e
        · rw [if_pos (by omega), h3, List.length_cons]; omega
      · exact ⟨[], y :: q, rfl, fun _ h => (by cases h), fun z v' e => by cases e; exact h, by rw [if_neg (by omega)]; rfl⟩
  obtain ⟨u, v, e, h1, h2, h3⟩ := go x.xW.ls 0
  refine ⟨u, v, e, h1, h2, ?_⟩
  unfold r16_Table_wait
  simp only [bnd_eq, h3, Nat.zero_add]
  rw [e, show List.take u.length (u ++ v) = u from List.take_left' rfl, show List.drop u.length (u ++ v) = v from List.drop_left' rfl]
  simp
theorem rask_small {x : TableDT} {t : Nat} {l : LockD} {s e : Int} {g d : List Nat} {r : TableDT} (hx : List.length x.xH.ls + List.length x.xW.ls ≤ 192) (hr : r16_Table_Ask x t l = (s, g, d, e, r)) : List.length r.xH.ls + List.length r.xW.ls ≤ 192 ∧ List.length g ≤ 1000000 ∧ List.length d ≤ 1000000 := by
  have same : ∀ {s' e' : Int}, (s', ([] : List Nat), ([] : List Nat), e', x) = (s, g, d, e, r) → List.length r.xH.ls + List.length r.xW.ls ≤ 192 ∧ List.length g ≤ 1000000 ∧ List.length d ≤ 1000000 := fun h => by
    obtain ⟨_, eg, ed, _, er⟩ := pj5 h
    subst eg; subst ed; subst er
    exact ⟨hx, Nat.zero_le _, Nat.zero_le _⟩
  have hl : ∀ (q : List HeldD) (b : Bool), (∃ b', r16_Table_Ask_L0 x t l q b = .inl b') ∨ r16_Table_Ask_L0 x t l q b = .inr (1, [], [], 0, x) := by
    intro q
    induction q with
    | nil => intro b; exact .inl ⟨b, rfl⟩
    | cons y q ih =>
      intro b
      rw [r16_Table_Ask_L0]
      simp only [bnd_eq]
      repeat' split
      all_goals first | exact ih _ | exact .inr rfl
  unfold r16_Table_Ask at hr
  simp only [bnd_eq] at hr
  by_cases c1 : r02_Check l.xRange = 0
  · rw [if_pos c1] at hr
    by_cases c2 : r16_Table_waits x t = true
    · rw [if_pos c2] at hr; exact same hr
    · rw [if_neg c2] at hr
      rcases hl x.xH.ls true with ⟨b', e1⟩ | e1
      · rw [e1] at hr
        simp only [lp] at hr
        by_cases c3 : ((List.length x.xH.ls + (List.length x.xW.ls) : Nat) : Int) ≥ 192
        · rw [if_pos c3] at hr; exact same hr
        · rw [if_neg c3] at hr
          by_cases c4 : r16_Table_free x (HeldD.mk t l) = true
          · rw [if_pos c4] at hr
            have hg := rgrant x.xH.ls x.xW.ls (HeldD.mk t l)
            replace hg : r16_Table_grant x (HeldD.mk t l) = _ := hg
            rw [hg] at hr
            generalize hD : r16_Table_grant_L0 (TableDT.mk (Ll.mk x.xH.ls) (Ll.mk x.xW.ls)) (HeldD.mk t l) x.xW.ls [] = D at hr
            have h2 : D.length ≤ x.xW.ls.length := by have := rgL0_len (TableDT.mk (Ll.mk x.xH.ls) (Ll.mk x.xW.ls)) (HeldD.mk t l) x.xW.ls []; rw [hD] at this; simp only [List.length_nil] at this; omega
            have h3 := List.length_filter_le (notin D) (x.xH.ls ++ [HeldD.mk t l])
            have h4 := List.length_filter_le (notin D) x.xW.ls
            rw [List.length_append, List.length_cons, List.length_nil] at h3
            cases hs : r16_Table_settle (TableDT.mk (Ll.mk ((x.xH.ls ++ [HeldD.mk t l]).filter (notin D))) (Ll.mk (x.xW.ls.filter (notin D)))) D with
            | mk g0 q0 =>
              obtain ⟨d0, r0⟩ := q0
              rw [hs] at hr
              obtain ⟨_, eg, ed, _, er⟩ := pj5 hr
              replace eg : g0 = g := eg
              replace ed : d0 = d := ed
              replace er : r0 = r := er
              subst eg; subst ed; subst er
              obtain ⟨k1, k2, k3⟩ := rsettle_small (show List.length (x.xW.ls.filter (notin D)) ≤ 400 by omega) hs
              replace k1 : List.length r0.xH.ls + List.length r0.xW.ls ≤ List.length ((x.xH.ls ++ [HeldD.mk t l]).filter (notin D)) + List.length (x.xW.ls.filter (notin D)) := k1
              replace k2 : List.length g0 ≤ List.length (x.xW.ls.filter (notin D)) := k2
              replace k3 : List.length d0 ≤ List.length D + 400 * List.length (x.xW.ls.filter (notin D)) := k3
              exact ⟨by omega, by omega, by omega⟩
          · rw [if_neg c4] at hr
            by_cases c5 : b' = true
            · rw [if_pos c5] at hr
              obtain ⟨u, v, e2, _, _, e3⟩ := rwait x (HeldD.mk t l)
              rw [e3] at hr
              obtain ⟨_, eg, ed, _, er⟩ := pj5 hr
              subst eg; subst ed; subst er
              refine ⟨?_, Nat.zero_le _, Nat.zero_le _⟩
              show List.length x.xH.ls + List.length (u ++ HeldD.mk t l :: v) ≤ 192
              rw [e2, List.length_append] at c3
              rw [List.length_append, List.length_cons]
              omega
            · rw [if_neg c5] at hr; exact same hr
      · rw [e1] at hr; exact same hr
  · rw [if_neg c1] at hr; exact same hr
theorem clone_sound {x r : TableT} (h : Sound x.xrows.ls) (hr : locks_Table_Clone x = r) : Sound r.xrows.ls := by rw [← hr]; exact h
end Go.Proofs.Ytggnajpokhaaiaa
