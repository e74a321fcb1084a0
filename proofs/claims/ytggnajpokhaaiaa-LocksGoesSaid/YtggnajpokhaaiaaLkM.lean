/-
  A table's methods as mathematics: where a row is, what is dropped, what a grant does. Conditions: none beyond each law's own.
-/
import Derived.Test.YtggnajpokhaaiaaLc
namespace Go.Proofs.Ytggnajpokhaaiaa
set_option linter.unusedVariables false
set_option linter.unusedSimpArgs false
theorem bnd_eq {α β : Type} (x : α) (f : α → β) : bnd x f = f x := rfl
def Up (l : List rowT) : Prop := l.Pairwise fun a b => a.xtxn < b.xtxn
theorem up_at {l : List rowT} (hs : Up l) {i j : Nat} {a b : rowT} (ha : l[i]? = some a) (hb : l[j]? = some b) (h : i < j) : a.xtxn < b.xtxn := by
  obtain ⟨h1, rfl⟩ := List.getElem?_eq_some_iff.1 ha
  obtain ⟨h2, rfl⟩ := List.getElem?_eq_some_iff.1 hb
  exact List.pairwise_iff_getElem.1 hs i j h1 h2 h
theorem cmp_eq (a b : Nat) : cmp_Compare_uint64 a b = if a < b then -1 else if a > b then 1 else 0 := by
  unfold cmp_Compare_uint64 cmp_isNaN_uint64
  simp only [bnd_eq]
  rw [if_neg (by decide), if_neg (by decide)]
  by_cases h : a < b
  · rw [if_pos (by omega), if_pos h]
  · rw [if_neg (by omega), if_neg h]
    by_cases h2 : a > b
    · rw [if_pos (by omega), if_pos h2]
    · rw [if_neg (by omega), if_neg h2]
theorem cmp_lt {a b : Nat} : cmp_Compare_uint64 a b < 0 ↔ a < b := by
  rw [cmp_eq]; split
  · omega
  · split <;> omega
theorem cmp_zero {a b : Nat} : cmp_Compare_uint64 a b = 0 ↔ a = b := by
  rw [cmp_eq]; split
  · omega
  · split <;> omega
theorem bs_loop {m : List rowT} (hs : Up m) (k : Nat) : ∀ (f i j : Nat), j - i < f → i ≤ j → j ≤ m.length → (∀ q p, m[q]? = some p → q < i → p.xtxn < k) → (∀ q p, m[q]? = some p → j ≤ q → ¬ p.xtxn < k) →
    ∃ r, slices_BinarySearchFunc_locks_row_locks_row_uint64_L0 m k f i j = r ∧ r ≤ m.length ∧ (∀ q p, m[q]? = some p → q < r → p.xtxn < k) ∧ (∀ q p, m[q]? = some p → r ≤ q → ¬ p.xtxn < k)
  | 0, i, j, h, _, _, _, _ => by omega
  | f + 1, i, j, h, hij, hj, hl, hg => by
    unfold slices_BinarySearchFunc_locks_row_locks_row_uint64_L0
    by_cases h1 : ((i : Nat) : Int) < ((j : Nat) : Int)
    · obtain ⟨x, hx⟩ : ∃ x, m[(i + j) / 2]? = some x := ⟨_, List.getElem?_eq_getElem (by omega)⟩
      rw [if_pos h1, bnd_eq, bnd_eq, getD_of hx]
      by_cases h2 : cmp_Compare_uint64 x.xtxn k < 0
      · rw [if_pos h2]
        refine bs_loop hs k f _ j (by omega) (by omega) hj (fun q p hq hlt => ?_) hg
        rcases Nat.lt_or_ge q ((i + j) / 2) with e | e
        · exact Nat.lt_trans (up_at hs hq hx e) (cmp_lt.1 h2)
        · have : q = (i + j) / 2 := by omega
          subst this
          rw [hx] at hq; cases hq
          exact cmp_lt.1 h2
      · rw [if_neg h2]
        refine bs_loop hs k f i _ (by omega) (by omega) (by omega) hl (fun q p hq hge hlt => ?_)
        rcases Nat.lt_or_ge ((i + j) / 2) q with e | e
        · exact h2 (cmp_lt.2 (Nat.lt_trans (up_at hs hx hq e) hlt))
        · have : q = (i + j) / 2 := by omega
          subst this
          rw [hx] at hq; cases hq
          exact h2 (cmp_lt.2 hlt)
    · rw [if_neg h1]
      have : i = j := by omega
      subst this
      exact ⟨i, rfl, hj, hl, hg⟩
structure Cut (m : List rowT) (k : Nat) (a b : List rowT) : Prop where
  app : m = a ++ b
  lo : ∀ p ∈ a, p.xtxn < k
  hi : ∀ p ∈ b, k ≤ p.xtxn
theorem find_cut {m : List rowT} (hs : Up m) (k : Nat) : ∃ a b, Cut m k a b ∧ (locks_Table_find (TableT.mk (Ll.mk m)) k).1 = ((a.length : Nat) : Int) ∧ ((locks_Table_find (TableT.mk (Ll.mk m)) k).2 = true ↔ ∃ p q, b = p :: q ∧ p.xtxn = k) := by
  obtain ⟨r, h0, h1, h2, h3⟩ := bs_loop hs k (m.length - 0 + 1) 0 m.length (by omega) (by omega) (Nat.le_refl _) (fun q p _ h => by omega) (fun q p hq h => by have := (List.getElem?_eq_some_iff.1 hq).1; omega)
  have hlen : (List.take r m).length = r := by rw [List.length_take]; omega
  have e : locks_Table_find (TableT.mk (Ll.mk m)) k = (((r : Nat) : Int), (locks_Table_find (TableT.mk (Ll.mk m)) k).2) ∧ ((locks_Table_find (TableT.mk (Ll.mk m)) k).2 = true ↔ ∃ p, m[r]? = some p ∧ p.xtxn = k) := by
    unfold locks_Table_find slices_BinarySearchFunc_locks_row_locks_row_uint64
    simp only [bnd_eq, h0]
    by_cases h4 : ((r : Nat) : Int) < ((List.length m : Nat) : Int)
    · obtain ⟨x, hx⟩ : ∃ x, m[r]? = some x := ⟨_, List.getElem?_eq_getElem (by omega)⟩
      rw [if_pos h4, getD_of hx]
      refine ⟨rfl, ?_⟩
      simp only [decide_eq_true_eq, cmp_zero, hx, Option.some.injEq, exists_eq_left']
    · rw [if_neg h4]
      refine ⟨rfl, ?_⟩
      have : m[r]? = none := List.getElem?_eq_none (by omega)
      simp [this]
  refine ⟨List.take r m, List.drop r m, ⟨(List.take_append_drop r m).symm, fun p hp => ?_, fun p hp => ?_⟩, ?_, ?_⟩
  · obtain ⟨j, hj⟩ := List.mem_iff_getElem?.1 hp
    have hjr : j < r := by have := (List.getElem?_eq_some_iff.1 hj).1; omega
    rw [List.getElem?_take, if_pos hjr] at hj
    exact h2 j p hj hjr
  · obtain ⟨j, hj⟩ := List.mem_iff_getElem?.1 hp
    rw [List.getElem?_drop] at hj
    exact Nat.le_of_not_lt (h3 _ p hj (by omega))
  · rw [e.1, hlen]
  · rw [e.2]
    constructor
    · rintro ⟨p, hp, hk⟩
      exact ⟨p, List.drop (r + 1) m, drop_at hp, hk⟩
    · rintro ⟨p, q, hp, hk⟩
      refine ⟨p, ?_, hk⟩
      have : (List.drop r m)[0]? = some p := by rw [hp]; rfl
      rwa [List.getElem?_drop, Nat.add_zero] at this
theorem up_filter {l : List rowT} (p : rowT → Bool) (h : Up l) : Up (l.filter p) := h.filter p
theorem up_cons {a b : List rowT} {p : rowT} (h : Up (a ++ p :: b)) : Up a ∧ Up b ∧ (∀ r ∈ a, r.xtxn < p.xtxn) ∧ (∀ r ∈ b, p.xtxn < r.xtxn) := by
  have h1 := List.pairwise_append.1 h
  have h2 := List.pairwise_cons.1 h1.2.1
  exact ⟨h1.1, h2.2, fun r hr => h1.2.2 r hr p (.head _), h2.1⟩
theorem find_two {m : List rowT} (hs : Up m) (t : Nat) :
    (∃ a p q, m = a ++ p :: q ∧ p.xtxn = t ∧ (∀ r ∈ a, r.xtxn < t) ∧ (∀ r ∈ q, t < r.xtxn) ∧ locks_Table_find (TableT.mk (Ll.mk m)) t = ((a.length : Int), true)) ∨
    (∃ a q, m = a ++ q ∧ (∀ r ∈ a, r.xtxn < t) ∧ (∀ r ∈ q, t < r.xtxn) ∧ locks_Table_find (TableT.mk (Ll.mk m)) t = ((a.length : Int), false)) := by
  obtain ⟨a, b, hc, h1, h2⟩ := find_cut hs t
  have e : ∀ x : Int × Bool, x = (x.1, x.2) := fun _ => rfl
  cases hb : (locks_Table_find (TableT.mk (Ll.mk m)) t).2 with
  | true =>
    obtain ⟨p, q, rfl, hp⟩ := h2.1 hb
    refine .inl ⟨a, p, q, hc.app, hp, hc.lo, fun r hr => ?_, ?_⟩
    · have := (up_cons (hc.app ▸ hs)).2.2.2 r hr; omega
    · rw [e (locks_Table_find _ _), h1, hb]
  | false =>
    refine .inr ⟨a, b, hc.app, hc.lo, fun r hr => ?_, ?_⟩
    · have h3 := hc.hi r hr
      rcases Nat.lt_or_ge t r.xtxn with h | h
      · exact h
      · exfalso
        have hr2 : r.xtxn = t := by omega
        cases b with
        | nil => cases hr
        | cons p q =>
          have hup := up_cons (hc.app ▸ hs)
          rcases List.mem_cons.1 hr with h4 | h4
          · exact absurd (h2.2 ⟨p, q, rfl, by rw [← h4]; exact hr2⟩) (by rw [hb]; decide)
          · have := hup.2.2.2 r h4; have := hc.hi p (.head _); omega
    · rw [e (locks_Table_find _ _), h1, hb]
def but (t : Nat) (l : List rowT) : List rowT := l.filter fun r => decide (r.xtxn ≠ t)
theorem filt_all {l : List rowT} {p : rowT → Bool} (h : ∀ r ∈ l, p r = true) : l.filter p = l := List.filter_eq_self.2 h
theorem drop_told {m : List rowT} (hs : Up m) (t : Nat) : locks_Table_drop (TableT.mk (Ll.mk m)) t = TableT.mk (Ll.mk (but t m)) := by
  unfold locks_Table_drop but
  rw [bnd_eq]
  rcases find_two hs t with ⟨a, p, q, rfl, hp, ha, hq, hf⟩ | ⟨a, q, rfl, ha, hq, hf⟩
  · rw [hf, if_pos rfl]
    have e1 : List.filter (fun r : rowT => decide (r.xtxn ≠ t)) (a ++ p :: q) = a ++ q := by
      rw [List.filter_append, List.filter_cons_of_neg (by simp [hp]), filt_all (fun r hr => decide_eq_true (Nat.ne_of_lt (ha r hr))), filt_all (fun r hr => decide_eq_true (Nat.ne_of_gt (hq r hr)))]
    rw [e1]
    simp only [Int.toNat_natCast, show (a.length : Int) + 1 = ((a.length + 1 : Nat) : Int) from by omega]
    have e2 : List.drop (a.length + 1) (a ++ p :: q) = q := by rw [show a ++ p :: q = (a ++ [p]) ++ q by simp]; exact List.drop_left' (by simp)
    have e3 : List.take a.length (a ++ p :: q) = a := List.take_left' rfl
    rw [e2, e3]
  · rw [hf, if_neg (by simp)]
    have e1 : List.filter (fun r : rowT => decide (r.xtxn ≠ t)) (a ++ q) = a ++ q := filt_all fun r hr => by
      rcases List.mem_append.1 hr with h | h
      · exact decide_eq_true (Nat.ne_of_lt (ha r h))
      · exact decide_eq_true (Nat.ne_of_gt (hq r h))
    rw [e1]
def zl : LockD := LockD.mk (RangeD.mk ([]) ([])) false
def old (l : List rowT) (t : Nat) : List LockD := (l.filter fun r => decide (r.xtxn = t)).flatMap fun r => r.xheld.ls
def putR (l : List rowT) (t : Nat) (x : LockD) : List rowT := (l.filter fun r => decide (r.xtxn < t)) ++ (rowT.mk t (Ll.mk (old l t ++ [x])) false zl :: l.filter fun r => decide (t < r.xtxn))
def dies (t : Nat) (x : LockD) (r : rowT) : Bool := r.xwaits && (decide (t < r.xtxn) && ((span_Meet x.xRange r.xwant.xRange).2 && (x.xWrite || r.xwant.xWrite)))
theorem put_a {a q : List rowT} {p : rowT} {t : Nat} (x : LockD) (hp : p.xtxn = t) (ha : ∀ r ∈ a, r.xtxn < t) (hq : ∀ r ∈ q, t < r.xtxn) : putR (a ++ p :: q) t x = a ++ rowT.mk t (Ll.mk (p.xheld.ls ++ [x])) false zl :: q := by
  have fa : ∀ {l : List rowT} {f : rowT → Bool}, (∀ r ∈ l, f r = false) → l.filter f = [] := fun {l f} h => List.filter_eq_nil_iff.2 fun r hr => by rw [h r hr]; decide
  unfold putR old
  rw [List.filter_append, List.filter_append, List.filter_append, List.filter_cons_of_neg (by simp [hp]), List.filter_cons_of_pos (by simp [hp]), List.filter_cons_of_neg (by simp [hp])]
  rw [filt_all (fun r hr => decide_eq_true (ha r hr)), fa (l := q) (fun r hr => decide_eq_false (by have := hq r hr; omega)), fa (l := a) (f := fun r => decide (t < r.xtxn)) (fun r hr => decide_eq_false (by have := ha r hr; omega)), filt_all (fun r hr => decide_eq_true (hq r hr)), fa (l := a) (f := fun r => decide (r.xtxn = t)) (fun r hr => decide_eq_false (by have := ha r hr; omega)), fa (l := q) (f := fun r => decide (r.xtxn = t)) (fun r hr => decide_eq_false (by have := hq r hr; omega))]
  simp
theorem put_b {a q : List rowT} {t : Nat} (x : LockD) (ha : ∀ r ∈ a, r.xtxn < t) (hq : ∀ r ∈ q, t < r.xtxn) : putR (a ++ q) t x = a ++ rowT.mk t (Ll.mk ([] ++ [x])) false zl :: q := by
  have fa : ∀ {l : List rowT} {f : rowT → Bool}, (∀ r ∈ l, f r = false) → l.filter f = [] := fun {l f} h => List.filter_eq_nil_iff.2 fun r hr => by rw [h r hr]; decide
  unfold putR old
  rw [List.filter_append, List.filter_append, List.filter_append]
  rw [filt_all (fun r hr => decide_eq_true (ha r hr)), fa (l := q) (fun r hr => decide_eq_false (by have := hq r hr; omega)), fa (l := a) (f := fun r => decide (t < r.xtxn)) (fun r hr => decide_eq_false (by have := ha r hr; omega)), filt_all (fun r hr => decide_eq_true (hq r hr)), fa (l := a) (f := fun r => decide (r.xtxn = t)) (fun r hr => decide_eq_false (by have := ha r hr; omega)), fa (l := q) (f := fun r => decide (r.xtxn = t)) (fun r hr => decide_eq_false (by have := hq r hr; omega))]
  simp
theorem up_mid {a q : List rowT} {p : rowT} {t : Nat} (hs : Up (a ++ q)) (hp : p.xtxn = t) (ha : ∀ r ∈ a, r.xtxn < t) (hq : ∀ r ∈ q, t < r.xtxn) : Up (a ++ p :: q) := by
  have h := List.pairwise_append.1 hs
  refine List.pairwise_append.2 ⟨h.1, List.pairwise_cons.2 ⟨fun r hr => by rw [hp]; exact hq r hr, h.2.1⟩, fun r hr s hs => ?_⟩
  rcases List.mem_cons.1 hs with e | e
  · rw [e, hp]; exact ha r hr
  · exact h.2.2 r hr s e
theorem up_put {l : List rowT} (hs : Up l) (t : Nat) (x : LockD) : Up (putR l t x) := by
  rcases find_two hs t with ⟨a, p, q, rfl, hp, ha, hq, _⟩ | ⟨a, q, rfl, ha, hq, _⟩
  · rw [put_a x hp ha hq]
    have h := List.pairwise_append.1 hs
    have h2 := List.pairwise_cons.1 h.2.1
    exact up_mid (List.pairwise_append.2 ⟨h.1, h2.2, fun r hr s hs => h.2.2 r hr s (.tail _ hs)⟩) rfl ha hq
  · rw [put_b x ha hq]; exact up_mid hs rfl ha hq
theorem drops1 {p3 : changeT} {z : List Nat} : ∀ {l : List rowT} (ds : List Nat), Up l → locks_Table_grant_L1 p3 z ds l = l.filter fun r => decide (r.xtxn ∉ ds)
  | l, [], h => by rw [locks_Table_grant_L1]; exact (filt_all fun r hr => by simp).symm
  | l, d :: ds, h => by
    rw [locks_Table_grant_L1, bnd_eq, drop_told h]
    show locks_Table_grant_L1 p3 z ds (but d l) = _
    have hb : Up (but d l) := up_filter _ h
    rw [drops1 ds hb]
    unfold but
    rw [List.filter_filter]
    congr 1
    funext r
    simp only [List.mem_cons, not_or, ← Bool.decide_and]
    exact decide_eq_decide.2 ⟨fun h => ⟨h.2, h.1⟩, fun h => ⟨h.2, h.1⟩⟩
theorem drops3 {p3 : changeT} {z : List Nat} : ∀ {l : List rowT} (ds : List Nat), Up l → locks_Table_grant_L3 p3 z ds l = l.filter fun r => decide (r.xtxn ∉ ds)
  | l, [], h => by rw [locks_Table_grant_L3]; exact (filt_all fun r hr => by simp).symm
  | l, d :: ds, h => by
    rw [locks_Table_grant_L3, bnd_eq, drop_told h]
    show locks_Table_grant_L3 p3 z ds (but d l) = _
    have hb : Up (but d l) := up_filter _ h
    rw [drops3 ds hb]
    unfold but
    rw [List.filter_filter]
    congr 1
    funext r
    simp only [List.mem_cons, not_or, ← Bool.decide_and]
    exact decide_eq_decide.2 ⟨fun h => ⟨h.2, h.1⟩, fun h => ⟨h.2, h.1⟩⟩
theorem up_inj {l : List rowT} (h : Up l) {r s : rowT} (hr : r ∈ l) (hs : s ∈ l) (e : r.xtxn = s.xtxn) : r = s := by
  obtain ⟨i, hi⟩ := List.mem_iff_getElem?.1 hr
  obtain ⟨j, hj⟩ := List.mem_iff_getElem?.1 hs
  rcases Nat.lt_trichotomy i j with c | c | c
  · have := up_at h hi hj c; omega
  · rw [c, hj] at hi; exact (Option.some.inj hi).symm
  · have := up_at h hj hi c; omega
theorem filt_die {l : List rowT} (h : Up l) (f : rowT → Bool) : (l.filter fun r => decide (r.xtxn ∉ (l.filter f).map fun q => q.xtxn)) = l.filter fun r => !f r := by
  refine List.filter_congr fun r hr => ?_
  cases hf : f r with
  | true =>
    refine decide_eq_false ?_
    intro hn
    exact hn (List.mem_map.2 ⟨r, List.mem_filter.2 ⟨hr, hf⟩, rfl⟩)
  | false =>
    refine decide_eq_true fun hn => ?_
    obtain ⟨s, hs, e⟩ := List.mem_map.1 hn
    have := up_inj h (List.mem_filter.1 hs).1 hr e
    rw [this] at hs
    exact absurd (List.mem_filter.1 hs).2 (by rw [hf]; decide)
end Go.Proofs.Ytggnajpokhaaiaa
