/-
  The library's sort of numbers of 64 bits, told, is the sort that the library of proofs knows: second part. Conditions: none beyond each law's own.
-/
import Derived.Test.YtggnajpokhaaiaaTbM
import Derived.Sort.LotD4
namespace Go.Proofs.Ytggnajpokhaaiaa
set_option linter.unusedVariables false
set_option linter.unusedSimpArgs false
open Go.Sort
theorem ss_ge (d : Array Nat) (b : Nat) : ∀ (n i : Nat), b - i ≤ n → i ≤ scanSorted ltN d b i := by
  intro n
  induction n with
  | zero => intro i h; rw [scanSorted, if_neg (andN (by omega))]; exact Nat.le_refl _
  | succ n ih =>
    intro i h
    rw [scanSorted]
    split
    · have := ih (i + 1) (by omega); omega
    · exact Nat.le_refl _
theorem ss1 (b : Nat) (l : List Nat) : ∀ (q i : Nat), b - i < q → 1 ≤ i → slices_partialInsertionSortOrdered_uint64_L1 (b : Int) l q (i : Int) = ((scanSorted ltN l.toArray b i : Nat) : Int) := by
  intro q
  induction q with
  | zero => intro i h; omega
  | succ q ih =>
    intro i h hi
    rw [slices_partialInsertionSortOrdered_uint64_L1, scanSorted]
    simp only [bndE, lessN, ga, show (i : Int) - 1 = ((i - 1 : Nat) : Int) from by omega, Int.toNat_natCast]
    by_cases h1 : i < b
    · rw [if_pos (by omega)]
      by_cases h2 : ltN (List.getD l i default) (List.getD l (i - 1) default) = true
      · rw [if_pos h2, if_neg (andB (np h2))]
      · rw [if_neg h2, if_pos (andY h1 (pn h2)), show (i : Int) + 1 = ((i + 1 : Nat) : Int) from by omega, ih _ (by omega) (by omega)]
    · rw [if_neg (by omega), if_neg (andN h1)]
theorem sd2 : ∀ (q j : Nat) (l : List Nat), j < q → slices_partialInsertionSortOrdered_uint64_L2 q (j : Int) l = (shiftDown ltN j l.toArray).toList := by
  intro q
  induction q with
  | zero => intro j l h; omega
  | succ q ih =>
    intro j l h
    cases j with
    | zero => rw [slices_partialInsertionSortOrdered_uint64_L2, if_neg (by omega)]; rfl
    | succ j =>
      rw [slices_partialInsertionSortOrdered_uint64_L2, shiftDown, if_pos (by omega)]
      simp only [bndE, lessN, show ((j + 1 : Nat) : Int) - 1 = (j : Int) from by omega, Int.toNat_natCast, ga]
      by_cases h2 : ltN (List.getD l (j + 1) default) (List.getD l j default) = true
      · rw [if_pos h2, if_neg (np h2), sw, ih j _ (by omega)]
      · rw [if_neg h2, if_pos (pn h2)]
theorem su3 (b : Nat) (z : Int) : ∀ (q j : Nat) (l : List Nat), b - j < q → 1 ≤ j → slices_partialInsertionSortOrdered_uint64_L3 (b : Int) z q (j : Int) l = (z, (shiftUp ltN b j l.toArray).toList) := by
  intro q
  induction q with
  | zero => intro j l h; omega
  | succ q ih =>
    intro j l h hj
    rw [slices_partialInsertionSortOrdered_uint64_L3, shiftUp]
    simp only [bndE, lessN, show (j : Int) - 1 = ((j - 1 : Nat) : Int) from by omega, Int.toNat_natCast, ga]
    by_cases h1 : j < b
    · rw [if_pos (by omega), if_pos h1]
      by_cases h2 : ltN (List.getD l j default) (List.getD l (j - 1) default) = true
      · rw [if_pos h2, if_neg (np h2), show (j : Int) + 1 = ((j + 1 : Nat) : Int) from by omega, ih _ _ (by omega) (by omega), sw]
      · rw [if_neg h2, if_pos (pn h2)]
    · rw [if_neg (by omega), if_neg h1]
theorem lp_inl {α ρ : Type} (a : α) (f : α → ρ) : lp (Sum.inl a) f = f a := rfl
theorem lp_inr {α ρ : Type} (a : ρ) (f : α → ρ) : lp (Sum.inr a) f = a := rfl
theorem lpS_inl {α σ ρ : Type} (a : α) (f : α → σ ⊕ ρ) : lpS (Sum.inl a) f = f a := rfl
theorem lpS_inr {α σ ρ : Type} (a : ρ) (f : α → σ ⊕ ρ) : lpS (Sum.inr a) f = Sum.inr a := rfl
theorem pi0 (a b : Nat) : ∀ (s i : Nat) (l : List Nat), a < i → lp (slices_partialInsertionSortOrdered_uint64_L0 (a : Int) (b : Int) s (i : Int) l) (fun s => (false, s)) = ((partialIns ltN a b s i l.toArray).2, (partialIns ltN a b s i l.toArray).1.toList) := by
  intro s
  induction s with
  | zero => intro i l h; rfl
  | succ s ih =>
    intro i l h
    rw [slices_partialInsertionSortOrdered_uint64_L0, partialIns]
    simp only [bndE]
    rw [ss1 b l _ i (by omega) (by omega)]
    have g := ss_ge l.toArray b _ i (Nat.le_refl _)
    generalize scanSorted ltN l.toArray b i = i2 at g ⊢
    by_cases c1 : i2 = b
    · rw [if_pos (by omega), if_pos c1, lpS_inr, lp_inr]
    · rw [if_neg (by omega), if_neg c1]
      by_cases c2 : b - a < 50
      · rw [if_pos (by omega), if_pos c2, lpS_inr, lp_inr]
      · rw [if_neg (by omega), if_neg c2]
        simp only [show (i2 : Int) - 1 = ((i2 - 1 : Nat) : Int) from by omega, Int.toNat_natCast, sw, sd2 _ _ _ (Nat.lt_succ_self _)]
        have e1 : ∀ {x : List Nat} {y : Array Nat}, y = x.toArray → (if ((i2 : Nat) : Int) - (a : Int) ≥ 2 then (shiftDown ltN (i2 - 1) y).toList else x) = (if i2 - a ≥ 2 then shiftDown ltN (i2 - 1) y else y).toList := by
          intro x y e; subst e
          by_cases c : i2 - a ≥ 2
          · rw [if_pos (by omega), if_pos c]
          · rw [if_neg (by omega), if_neg c]
        rw [e1 rfl]
        generalize (if i2 - a ≥ 2 then shiftDown ltN (i2 - 1) _ else _) = d2
        by_cases c3 : b - i2 ≥ 2
        · rw [if_pos (by omega), if_pos c3, show (i2 : Int) + 1 = ((i2 + 1 : Nat) : Int) from by omega, su3 _ _ _ _ _ (by omega) (by omega)]
          simp only [lpS_inl]
          rw [ih _ _ (by omega)]
        · rw [if_neg (by omega), if_neg c3]
          simp only [lpS_inl]
          rw [ih _ _ (by omega)]
theorem pi_eq (a b : Nat) (l : List Nat) : slices_partialInsertionSortOrdered_uint64 l (a : Int) (b : Int) = ((partialInsertionSort ltN l.toArray a b).2, (partialInsertionSort ltN l.toArray a b).1.toList) := by
  unfold slices_partialInsertionSortOrdered_uint64 partialInsertionSort
  rw [show (a : Int) + 1 = ((a + 1 : Nat) : Int) from by omega, pi0 a b 5 (a + 1) l (by omega)]
theorem o2_eq (l : List Nat) (a b s : Nat) (hs : s ≤ 1000000) : slices_order2Ordered_uint64 l (a : Int) (b : Int) (s : Int) = (((order2 ltN l.toArray a b s).1 : Int), ((order2 ltN l.toArray a b s).2.1 : Int), ((order2 ltN l.toArray a b s).2.2 : Int)) := by
  unfold slices_order2Ordered_uint64 order2
  simp only [bndE, lessN, ga, Int.toNat_natCast]
  by_cases h : ltN (List.getD l b default) (List.getD l a default) = true
  · rw [if_pos h, if_pos h, IntWalk.i64_in _ (by omega)]; rfl
  · rw [if_neg h, if_neg h]
theorem md_eq (l : List Nat) (a b c s : Nat) (hs : s ≤ 1000) : slices_medianOrdered_uint64 l (a : Int) (b : Int) (c : Int) (s : Int) = (((median ltN l.toArray a b c s).1 : Int), ((median ltN l.toArray a b c s).2 : Int)) := by
  unfold slices_medianOrdered_uint64 median
  simp only [bndE]
  have k1 := order2_count (lt := ltN) l.toArray a b s
  rw [o2_eq l a b s (by omega)]
  generalize order2 ltN l.toArray a b s = r1 at k1 ⊢
  simp only
  have k2 := order2_count (lt := ltN) l.toArray r1.2.1 c r1.2.2
  rw [o2_eq l r1.2.1 c r1.2.2 (by omega)]
  generalize order2 ltN l.toArray r1.2.1 c r1.2.2 = r2 at k2 ⊢
  simp only
  rw [o2_eq l r1.1 r2.1 r2.2.2 (by omega)]
theorem ma_eq (l : List Nat) (a s : Nat) (hs : s ≤ 1000) (ha : 1 ≤ a) : slices_medianAdjacentOrdered_uint64 l (a : Int) (s : Int) = (((medianAdjacent ltN l.toArray a s).1 : Int), ((medianAdjacent ltN l.toArray a s).2 : Int)) := by
  unfold slices_medianAdjacentOrdered_uint64 medianAdjacent
  simp only [bndE]
  rw [show (a : Int) - 1 = ((a - 1 : Nat) : Int) from by omega, show (a : Int) + 1 = ((a + 1 : Nat) : Int) from by omega, md_eq l _ _ _ _ hs]
def hintN : Hint → Int
  | .unknown => 0
  | .increasing => 1
  | .decreasing => 2
theorem cp_eq (l : List Nat) (a b : Nat) : slices_choosePivotOrdered_uint64 l (a : Int) (b : Int) = (((choosePivot ltN l.toArray a b).1 : Int), hintN (choosePivot ltN l.toArray a b).2) := by
  have fin : ∀ (r : Nat × Nat), (if ((r.2 : Nat) : Int) = 0 then (((r.1 : Nat) : Int), (1 : Int)) else if ((r.2 : Nat) : Int) = 12 then (((r.1 : Nat) : Int), 2) else (((r.1 : Nat) : Int), 0)) = (((r.1 : Nat) : Int), hintN (if r.2 = 0 then .increasing else if r.2 = 12 then .decreasing else .unknown)) := by
    intro r
    by_cases c : r.2 = 0
    · rw [if_pos (by omega), if_pos c]; rfl
    · rw [if_neg (by omega), if_neg c]
      by_cases c2 : r.2 = 12
      · rw [if_pos (by omega), if_pos c2]; rfl
      · rw [if_neg (by omega), if_neg c2]; rfl
  rw [choosePivot_eq]
  unfold slices_choosePivotOrdered_uint64
  simp only [bndE, show Int.toNat ((b : Int) - (a : Int)) = b - a from by omega]
  refine Eq.trans (congrArg (fun X : Int × Int => if X.2 = 0 then (X.1, (1 : Int)) else if X.2 = 12 then (X.1, 2) else (X.1, 0)) (?_ : _ = (((rawPivot ltN l.toArray a b).1 : Int), ((rawPivot ltN l.toArray a b).2 : Int)))) (fin (rawPivot ltN l.toArray a b))
  unfold rawPivot
  by_cases c1 : b - a ≥ 8
  · rw [if_pos (by omega), if_pos c1]
    rw [show (a : Int) + (((b - a) / 4 * 1 : Nat) : Int) = ((a + (b - a) / 4 * 1 : Nat) : Int) from by omega, show (a : Int) + (((b - a) / 4 * 2 : Nat) : Int) = ((a + (b - a) / 4 * 2 : Nat) : Int) from by omega, show (a : Int) + (((b - a) / 4 * 3 : Nat) : Int) = ((a + (b - a) / 4 * 3 : Nat) : Int) from by omega]
    by_cases c2 : b - a ≥ 50
    · rw [if_pos (by omega), if_pos c2]
      generalize ha1 : a + (b - a) / 4 * 1 = i1
      generalize ha2 : a + (b - a) / 4 * 2 = i2
      generalize ha3 : a + (b - a) / 4 * 3 = i3
      have k1 := medianAdjacent_count (lt := ltN) l.toArray i1 0
      rw [show (0 : Int) = ((0 : Nat) : Int) from rfl, ma_eq l i1 0 (by omega) (by omega)]
      generalize medianAdjacent ltN l.toArray i1 0 = r1 at k1 ⊢
      simp only
      have k2 := medianAdjacent_count (lt := ltN) l.toArray i2 r1.2
      rw [ma_eq l i2 r1.2 (by omega) (by omega)]
      generalize medianAdjacent ltN l.toArray i2 r1.2 = r2 at k2 ⊢
      simp only
      have k3 := medianAdjacent_count (lt := ltN) l.toArray i3 r2.2
      rw [ma_eq l i3 r2.2 (by omega) (by omega)]
      generalize medianAdjacent ltN l.toArray i3 r2.2 = r3 at k3 ⊢
      simp only
      rw [md_eq l _ _ _ _ (by omega)]
    · rw [if_neg (by omega), if_neg c2]
      rw [show (0 : Int) = ((0 : Nat) : Int) from rfl, md_eq l _ _ _ _ (by omega)]
  · rw [if_neg (by omega), if_neg c1]
    rw [show (a : Int) + (((b - a) / 4 * 2 : Nat) : Int) = ((a + (b - a) / 4 * 2 : Nat) : Int) from by omega]
    rfl
end Go.Proofs.Ytggnajpokhaaiaa
