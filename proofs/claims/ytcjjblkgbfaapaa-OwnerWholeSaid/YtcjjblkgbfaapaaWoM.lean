/-
  Maps that rise; where a key stands; what the operations do to them.
  Conditions: none beyond each law's own.
-/
import Derived.Test.YtcjjblkgbfaapaaWr
import Derived.Test.YtcjjblkgbfaapaaSpanM
namespace Go.Proofs.Ytcjjblkgbfaapaa
set_option linter.unusedVariables false
set_option linter.unusedSimpArgs false
open Go.RowKit
@[reducible] def Key : Type := List UInt8
theorem k_irr (a : Key) : ¬ a < a := List.lt_irrefl a
theorem k_tr {a b c : Key} (h1 : a < b) (h2 : b < c) : a < c := List.lt_trans h1 h2
theorem k_nlt {a b : Key} : ¬ a < b ↔ b ≤ a := List.not_lt
theorem k_lt_le {a b : Key} (h : a < b) : a ≤ b := List.le_of_lt h
theorem k_tri (a b : Key) : a < b ∨ a = b ∨ b < a := by
  by_cases h1 : a < b
  · exact .inl h1
  · by_cases h2 : b < a
    · exact .inr (.inr h2)
    · exact .inr (.inl (List.le_antisymm (List.not_lt.1 h2) (List.not_lt.1 h1)))
theorem cmp_lt : ∀ (a b : Key), Lib.compareBytes a b < 0 ↔ a < b
  | [], [] => by simp [Lib.compareBytes]
  | [], _ :: _ => by simp [Lib.compareBytes]
  | _ :: _, [] => by simp [Lib.compareBytes]
  | x :: a, y :: b => by
    unfold Lib.compareBytes
    rw [List.cons_lt_cons_iff]
    by_cases h1 : x < y
    · simp [h1]
    · rw [if_neg h1]
      by_cases h2 : y < x
      · rw [if_pos h2]
        have : x ≠ y := fun e => by subst e; exact h1 h2
        simp [h1, this]
      · rw [if_neg h2]
        have : x = y := UInt8.le_antisymm (UInt8.not_lt.1 h2) (UInt8.not_lt.1 h1)
        subst this
        simp [cmp_lt a b]
theorem cmp_zero : ∀ (a b : Key), Lib.compareBytes a b = 0 ↔ a = b
  | [], [] => by simp [Lib.compareBytes]
  | [], _ :: _ => by simp [Lib.compareBytes]
  | _ :: _, [] => by simp [Lib.compareBytes]
  | x :: a, y :: b => by
    unfold Lib.compareBytes
    by_cases h1 : x < y
    · have : x ≠ y := fun e => by subst e; exact absurd h1 (UInt8.lt_irrefl _)
      simp [h1, this]
    · rw [if_neg h1]
      by_cases h2 : y < x
      · have : x ≠ y := fun e => by subst e; exact h1 h2
        simp [h2, this]
      · rw [if_neg h2]
        have : x = y := UInt8.le_antisymm (UInt8.not_lt.1 h2) (UInt8.not_lt.1 h1)
        subst this
        simp [cmp_zero a b]
theorem bnd_eq {α β : Type} (x : α) (f : α → β) : bnd x f = f x := rfl
def srt (m : List PairD) : Prop := m.Pairwise fun a b => a.xKey < b.xKey
def kok (k : Key) : Prop := 1 ≤ List.length k ∧ List.length k ≤ 12
def pok (p : PairD) : Prop := kok p.xKey ∧ List.length p.xValue ≤ 16
theorem ck_ok {k : Key} : span_CheckKey k = 0 ↔ kok k := by
  unfold span_CheckKey kok
  split
  · constructor <;> intro h <;> omega
  · split
    · constructor <;> intro h <;> omega
    · constructor <;> intro h <;> omega
theorem ck_20 {k : Key} : span_CheckKey k = 0 ∨ span_CheckKey k = 20 := by
  unfold span_CheckKey
  split
  · exact .inr rfl
  · split
    · exact .inr rfl
    · exact .inl rfl
theorem cm_loop (l : List PairD) : ∀ (q pre : List PairD), l = pre ++ q → (op_CheckMap_L0 l q pre.length = .inl () ↔ (∀ p ∈ q, pok p) ∧ (∀ a ∈ pre.getLast?, ∀ b ∈ q.head?, a.xKey < b.xKey) ∧ srt q) ∧ (∀ e, op_CheckMap_L0 l q pre.length = .inr e → e ≠ 0)
  | [], pre, _ => by simp [op_CheckMap_L0, srt]
  | x :: q, pre, hl => by
    have ih := cm_loop l q (pre ++ [x]) (by rw [hl, List.append_assoc]; rfl)
    have hlen : (pre ++ [x]).length = pre.length + 1 := by simp
    rw [hlen] at ih
    simp only [op_CheckMap_L0, bnd, op_checkValue]
    by_cases h1 : span_CheckKey x.xKey = 0
    · rw [if_pos h1]
      by_cases h2 : ((List.length x.xValue : Nat) : Int) > 16
      · simp only [if_pos h2]
        rw [if_neg (by decide)]
        refine ⟨⟨fun h => (by cases h), fun h => ?_⟩, fun e he => by injection he with he; omega⟩
        have := (h.1 x (by simp)).2
        omega
      · simp only [if_neg h2, if_true]
        have hx : pok x := ⟨ck_ok.1 h1, by omega⟩
        have hsrt : srt (x :: q) ↔ (∀ b ∈ q.head?, x.xKey < b.xKey) ∧ srt q := by
          unfold srt
          rw [List.pairwise_cons]
          constructor
          · rintro ⟨h, h'⟩
            exact ⟨fun b hb => h b (List.mem_of_mem_head? hb), h'⟩
          · rintro ⟨h, h'⟩
            refine ⟨fun b hb => ?_, h'⟩
            cases q with
            | nil => cases hb
            | cons y q =>
              have hy := h y rfl
              rcases List.mem_cons.1 hb with rfl | hb
              · exact hy
              · exact k_tr hy ((List.pairwise_cons.1 h').1 b hb)
        have hlast : (pre ++ [x]).getLast? = some x := by simp
        rw [hlast] at ih
        have hcore : (op_CheckMap_L0 l q (pre.length + 1) = .inl () ↔ (∀ p ∈ x :: q, pok p) ∧ srt (x :: q)) := by
          rw [ih.1, hsrt]
          constructor
          · rintro ⟨a, b, c⟩
            exact ⟨fun p hp => by rcases List.mem_cons.1 hp with rfl | hp; exact hx; exact a p hp, b x rfl, c⟩
          · rintro ⟨a, b, c⟩
            exact ⟨fun p hp => a p (List.mem_cons_of_mem _ hp), fun a' ha' => by cases ha'; exact b, c⟩
        by_cases h3 : ((pre.length : Nat) : Int) > 0
        · rw [if_pos h3]
          have hpre : pre ≠ [] := fun e => by subst e; simp at h3
          obtain ⟨y, hy⟩ : ∃ y, pre.getLast? = some y := ⟨_, List.getLast?_eq_some_getLast hpre⟩
          have hg : List.getD l (pre.length - 1) default = y := by
            rw [hl, List.getD_eq_getElem?_getD, List.getElem?_append_left (by omega)]
            rw [List.getLast?_eq_getElem?] at hy
            rw [hy]; rfl
          rw [hg]
          by_cases h4 : x.xKey ≤ y.xKey
          · rw [if_pos h4]
            refine ⟨⟨fun h => (by cases h), fun h => ?_⟩, fun e he => by injection he with he; omega⟩
            exact absurd (h.2.1 y hy x rfl) (k_nlt.2 h4)
          · rw [if_neg h4]
            refine ⟨?_, ih.2⟩
            rw [hcore]
            have h5 : y.xKey < x.xKey := by rcases k_tri y.xKey x.xKey with h | h | h; exact h; exact absurd (k_nlt.1 (h ▸ k_irr _)) h4; exact absurd (k_lt_le h) h4
            constructor
            · rintro ⟨a, b⟩
              exact ⟨a, fun a' ha' b' hb' => by rw [hy] at ha'; cases ha'; cases hb'; exact h5, b⟩
            · rintro ⟨a, _, b⟩
              exact ⟨a, b⟩
        · rw [if_neg h3]
          have hpre : pre = [] := List.eq_nil_of_length_eq_zero (by omega)
          refine ⟨?_, ih.2⟩
          rw [hcore, hpre]
          simp
    · rw [if_neg h1]
      refine ⟨⟨fun h => (by cases h), fun h => ?_⟩, fun e he => by injection he with he; rw [← he]; exact h1⟩
      exact absurd (ck_ok.2 (h.1 x (by simp)).1) h1
theorem cm_ok {l : List PairD} : op_CheckMap l = 0 ↔ (∀ p ∈ l, pok p) ∧ srt l := by
  have h := cm_loop l l [] rfl
  unfold op_CheckMap
  simp only [List.length_nil] at h
  cases e : op_CheckMap_L0 l l 0 with
  | inl u =>
    have := h.1.1 e
    exact ⟨fun _ => ⟨this.1, this.2.2⟩, fun _ => rfl⟩
  | inr r =>
    refine ⟨fun h0 => absurd h0 (h.2 r e), fun h0 => ?_⟩
    have := h.1.2 ⟨h0.1, by simp, h0.2⟩
    rw [e] at this
    cases this
theorem kK {k : Key} : kok k ↔ M.K k := Iff.rfl
theorem ne_len {k : Key} : k ≠ [] ↔ 1 ≤ k.length := by cases k <;> simp
theorem sc_R {r : RangeD} : span_Check r = 0 ↔ M.R r.xLo r.xHi := by
  have a := ck_ok (k := r.xLo); have b := ck_ok (k := r.xHi)
  have la := ne_len (k := r.xLo); have lb := ne_len (k := r.xHi)
  have nn := @k_nlt r.xLo r.xHi
  unfold span_Check M.R
  rw [← kK, ← kK]
  simp only [bnd]
  by_cases h1 : r.xLo = []
  · by_cases h2 : r.xHi = []
    · simp [h1, h2]
    · by_cases h3 : span_CheckKey r.xHi = 0
      · have z1 := M.nil_lt h2
        have z2 : ¬ r.xHi ≤ [] := fun q => k_nlt.2 q z1
        simp [h1, h2, h3, b.1 h3, z1, z2]
      · have h3' : ¬ kok r.xHi := fun q => h3 (b.2 q)
        simp [h1, h2, h3, h3']
  · by_cases h0 : span_CheckKey r.xLo = 0
    · by_cases h2 : r.xHi = []
      · simp [h1, h2, h0, a.1 h0]
      · by_cases h3 : span_CheckKey r.xHi = 0
        · by_cases h4 : r.xHi ≤ r.xLo
          · simp [h1, h2, h3, h0, h4, a.1 h0, b.1 h3]
          · simp [h1, h2, h3, h0, h4, a.1 h0, b.1 h3]; grind
        · have h3' : ¬ kok r.xHi := fun q => h3 (b.2 q)
          simp [h1, h2, h3, h0, h3']
    · have h0' : ¬ kok r.xLo := fun q => h0 (a.2 q)
      simp [h1, h0, h0']
theorem f1_lt {p : PairD} {k : Key} : op_find_1 p k < 0 ↔ p.xKey < k := cmp_lt _ _
theorem f1_zero {p : PairD} {k : Key} : op_find_1 p k = 0 ↔ p.xKey = k := cmp_zero _ _
theorem srt_at {m : List PairD} (hs : srt m) {i j : Nat} {a b : PairD} (ha : m[i]? = some a) (hb : m[j]? = some b) (h : i < j) : a.xKey < b.xKey := by
  obtain ⟨h1, rfl⟩ := List.getElem?_eq_some_iff.1 ha
  obtain ⟨h2, rfl⟩ := List.getElem?_eq_some_iff.1 hb
  exact List.pairwise_iff_getElem.1 hs i j h1 h2 h
theorem bs_loop {m : List PairD} (hs : srt m) (k : Key) : ∀ (f i j : Nat), j - i < f → i ≤ j → j ≤ m.length → (∀ q p, m[q]? = some p → q < i → p.xKey < k) → (∀ q p, m[q]? = some p → j ≤ q → ¬ p.xKey < k) →
    ∃ r, slices_BinarySearchFunc_api_Pair_api_Pair_string_L0 m k f i j = r ∧ r ≤ m.length ∧ (∀ q p, m[q]? = some p → q < r → p.xKey < k) ∧ (∀ q p, m[q]? = some p → r ≤ q → ¬ p.xKey < k)
  | 0, i, j, h, _, _, _, _ => by omega
  | f + 1, i, j, h, hij, hj, hl, hg => by
    unfold slices_BinarySearchFunc_api_Pair_api_Pair_string_L0
    by_cases h1 : ((i : Nat) : Int) < ((j : Nat) : Int)
    · obtain ⟨x, hx⟩ : ∃ x, m[(i + j) / 2]? = some x := ⟨_, List.getElem?_eq_getElem (by omega)⟩
      rw [if_pos h1, bnd_eq, bnd_eq, getD_of hx]
      by_cases h2 : op_find_1 x k < 0
      · rw [if_pos h2]
        refine bs_loop hs k f _ j (by omega) (by omega) hj (fun q p hq hlt => ?_) hg
        rcases Nat.lt_or_ge q ((i + j) / 2) with e | e
        · exact k_tr (srt_at hs hq hx e) (f1_lt.1 h2)
        · have : q = (i + j) / 2 := by omega
          subst this
          rw [hx] at hq; cases hq
          exact f1_lt.1 h2
      · rw [if_neg h2]
        refine bs_loop hs k f i _ (by omega) (by omega) (by omega) hl (fun q p hq hge hlt => ?_)
        rcases Nat.lt_or_ge ((i + j) / 2) q with e | e
        · exact h2 (f1_lt.2 (k_tr (srt_at hs hx hq e) hlt))
        · have : q = (i + j) / 2 := by omega
          subst this
          rw [hx] at hq; cases hq
          exact h2 (f1_lt.2 hlt)
    · rw [if_neg h1]
      have : i = j := by omega
      subst this
      exact ⟨i, rfl, hj, hl, hg⟩
structure Cut (m : List PairD) (k : Key) (a b : List PairD) : Prop where
  app : m = a ++ b
  lo : ∀ p ∈ a, p.xKey < k
  hi : ∀ p ∈ b, ¬ p.xKey < k
theorem find_cut {m : List PairD} (hs : srt m) (k : Key) : ∃ a b, Cut m k a b ∧ (op_find m k).1 = ((a.length : Nat) : Int) ∧ ((op_find m k).2 = true ↔ ∃ p q, b = p :: q ∧ p.xKey = k) := by
  obtain ⟨r, h0, h1, h2, h3⟩ := bs_loop hs k (m.length - 0 + 1) 0 m.length (by omega) (by omega) (Nat.le_refl _) (fun q p _ h => by omega) (fun q p hq h => by have := (List.getElem?_eq_some_iff.1 hq).1; omega)
  have hlen : (List.take r m).length = r := by rw [List.length_take]; omega
  have e : op_find m k = (((r : Nat) : Int), (op_find m k).2) ∧ ((op_find m k).2 = true ↔ ∃ p, m[r]? = some p ∧ p.xKey = k) := by
    unfold op_find slices_BinarySearchFunc_api_Pair_api_Pair_string
    rw [bnd_eq, bnd_eq, h0]
    by_cases h4 : ((r : Nat) : Int) < ((List.length m : Nat) : Int)
    · obtain ⟨x, hx⟩ : ∃ x, m[r]? = some x := ⟨_, List.getElem?_eq_getElem (by omega)⟩
      rw [if_pos h4, bnd_eq, bnd_eq, getD_of hx]
      refine ⟨rfl, ?_⟩
      simp only [decide_eq_true_eq, f1_zero, hx, Option.some.injEq, exists_eq_left']
    · rw [if_neg h4]
      refine ⟨rfl, ?_⟩
      have : m[r]? = none := List.getElem?_eq_none (by omega)
      simp [this]
  refine ⟨List.take r m, List.drop r m, ⟨(List.take_append_drop r m).symm, fun p hp => ?_, fun p hp => ?_⟩, ?_, ?_⟩
  · obtain ⟨j, hj⟩ := List.mem_iff_getElem?.1 hp
    have hjr : j < r := by have := (List.getElem?_eq_some_iff.1 hj).1; omega
    rw [List.getElem?_take, if_pos hjr] at hj
    exact h2 j p hj hjr
  · obtain ⟨j, hj⟩ := List.mem_iff_getElem?.1 hp
    rw [List.getElem?_drop] at hj
    exact h3 _ p hj (by omega)
  · rw [e.1, hlen]
  · rw [e.2]
    constructor
    · rintro ⟨p, hp, hk⟩
      exact ⟨p, List.drop (r + 1) m, drop_at hp, hk⟩
    · rintro ⟨p, q, hp, hk⟩
      refine ⟨p, ?_, hk⟩
      have : (List.drop r m)[0]? = some p := by rw [hp]; rfl
      rwa [List.getElem?_drop, Nat.add_zero] at this
theorem Cut.two {m : List PairD} {j k : Key} {a b c d : List PairD} (h : j < k) (x : Cut m j a b) (y : Cut m k c d) : a.length ≤ c.length := by
  rcases Nat.lt_or_ge c.length a.length with e | e
  · exfalso
    obtain ⟨p, hp⟩ : ∃ p, a[c.length]? = some p := ⟨_, List.getElem?_eq_getElem e⟩
    have h1 : m[c.length]? = some p := by rw [x.app, List.getElem?_append_left e]; exact hp
    rw [y.app, List.getElem?_append_right (Nat.le_refl _), Nat.sub_self] at h1
    exact y.hi p (List.mem_of_getElem? h1) (k_tr (x.lo p (List.mem_of_getElem? hp)) h)
  · exact e
def owns (x o : OpD) : Prop := (x.xKind = o.xKind) ∧ (x.xKey = o.xKey) ∧ (x.xValue = o.xValue) ∧ (x.xLo = o.xLo) ∧ (x.xHi = o.xHi) ∧ (x.xMost = o.xMost)
theorem cr_eq (o : OpD) : op_checkRange o = span_Check (RangeD.mk o.xLo o.xHi) := rfl
theorem cs_eq (o : OpD) : op_checkScan o = if span_Check (RangeD.mk o.xLo o.xHi) = 0 then (if o.xMost < 1 then 1 else if o.xMost > 4 then 1 else 0) else span_Check (RangeD.mk o.xLo o.xHi) := rfl
theorem cp_eq (o : OpD) : op_checkPair o = if span_CheckKey o.xKey = 0 then (if ((List.length o.xValue : Nat) : Int) > 16 then 2 else 0) else span_CheckKey o.xKey := rfl
theorem co1 {o : OpD} (h : o.xKind = 1 ∨ o.xKind = 3) : op_CheckOp o = if o.xValue = [] ∧ o.xLo = [] ∧ o.xHi = [] ∧ o.xMost = 0 then span_CheckKey o.xKey else 40 := by
  unfold op_CheckOp
  rcases h with h | h
  · rw [if_pos h]
    show (if _ then _ else _) = _
    simp only [op_ownKey, op_checkKey, bnd]
    congr 1
    simp [eq_comm]
  · rw [if_neg (by omega), if_neg (by omega), if_pos h]
    show (if _ then _ else _) = _
    simp only [op_ownKey, op_checkKey, bnd]
    congr 1
    simp [eq_comm]
theorem co2 {o : OpD} (h : o.xKind = 2) : op_CheckOp o = if o.xLo = [] ∧ o.xHi = [] ∧ o.xMost = 0 then op_checkPair o else 40 := by
  unfold op_CheckOp
  rw [if_neg (by omega), if_pos h]
  show (if _ then _ else _) = _
  simp only [op_ownPair, bnd]
  congr 1
  simp [eq_comm]
theorem co4 {o : OpD} (h : o.xKind = 4) : op_CheckOp o = if o.xKey = [] ∧ o.xValue = [] then op_checkScan o else 40 := by
  unfold op_CheckOp
  rw [if_neg (by omega), if_neg (by omega), if_neg (by omega), if_pos h]
  show (if _ then _ else _) = _
  simp only [op_ownScan, bnd]
  congr 1
  simp [eq_comm]
theorem co5 {o : OpD} (h : o.xKind = 5) : op_CheckOp o = if o.xKey = [] ∧ o.xValue = [] ∧ o.xMost = 0 then op_checkRange o else 40 := by
  unfold op_CheckOp
  rw [if_neg (by omega), if_neg (by omega), if_neg (by omega), if_neg (by omega), if_pos h]
  show (if _ then _ else _) = _
  simp only [op_ownRange, bnd]
  congr 1
  simp [eq_comm]
theorem co_range {o : OpD} (h : op_CheckOp o = 0) (hk : o.xKind = 4 ∨ o.xKind = 5) : M.R o.xLo o.xHi := by
  rcases hk with hk | hk
  · rw [co4 hk] at h
    by_cases h1 : o.xKey = [] ∧ o.xValue = []
    · rw [if_pos h1, cs_eq] at h
      by_cases h2 : span_Check (RangeD.mk o.xLo o.xHi) = 0
      · exact sc_R.1 h2
      · rw [if_neg h2] at h; exact absurd h h2
    · rw [if_neg h1] at h; cases h
  · rw [co5 hk] at h
    by_cases h1 : o.xKey = [] ∧ o.xValue = [] ∧ o.xMost = 0
    · rw [if_pos h1, cr_eq] at h
      exact sc_R.1 h
    · rw [if_neg h1] at h; cases h
theorem op_bounds_le {m : List PairD} {o : OpD} (hm : op_CheckMap m = 0) (ho : op_CheckOp o = 0) (hk : o.xKind = 4 ∨ o.xKind = 5) : (op_bounds m (op_spanRange o)).1 ≤ (op_bounds m (op_spanRange o)).2 := by
  have hs := (cm_ok.1 hm).2
  obtain ⟨a, b, hc, e1, _⟩ := find_cut hs o.xLo
  unfold op_bounds op_spanRange
  rw [bnd_eq]
  by_cases h : o.xHi = []
  · rw [if_pos h]
    show (op_find m o.xLo).1 ≤ _
    rw [e1, hc.app, List.length_append]
    simp only
    omega
  · rw [if_neg h, bnd_eq]
    obtain ⟨c, d, hc2, e2, _⟩ := find_cut hs o.xHi
    show (op_find m o.xLo).1 ≤ (op_find m o.xHi).1
    rw [e1, e2]
    have hlt : o.xLo < o.xHi := ((co_range ho hk).2.resolve_left h).2
    have := hc.two hlt hc2
    omega
theorem op_most {o : OpD} (ho : op_CheckOp o = 0) (hk : o.xKind = 4) : 1 ≤ o.xMost ∧ o.xMost ≤ 4 := by
  rw [co4 hk] at ho
  by_cases h1 : o.xKey = [] ∧ o.xValue = []
  · rw [if_pos h1, cs_eq] at ho
    by_cases h2 : span_Check (RangeD.mk o.xLo o.xHi) = 0
    · rw [if_pos h2] at ho
      by_cases h3 : o.xMost < 1
      · rw [if_pos h3] at ho; cases ho
      · rw [if_neg h3] at ho
        by_cases h4 : o.xMost > 4
        · rw [if_pos h4] at ho; cases ho
        · omega
    · rw [if_neg h2] at ho; exact absurd ho h2
  · rw [if_neg h1] at ho; cases ho
end Go.Proofs.Ytcjjblkgbfaapaa
