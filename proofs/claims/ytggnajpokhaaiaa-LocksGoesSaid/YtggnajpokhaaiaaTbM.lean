/-
  The library's sort of numbers of 64 bits, told, is the sort that the library of proofs knows. Conditions: none beyond each law's own.
-/
import Derived.Test.YtggnajpokhaaiaaTb
import Derived.Test.YtggnajpokhaaiaaWiX
namespace Go.Proofs.Ytggnajpokhaaiaa
set_option linter.unusedVariables false
set_option linter.unusedSimpArgs false
open Go.Sort
theorem bndE {α β : Type} (x : α) (f : α → β) : bnd x f = f x := rfl
theorem lessN (a b : Nat) : cmp_Less_uint64 a b = ltN a b := by
  unfold cmp_Less_uint64 cmp_isNaN_uint64 ltN
  simp only [bndE]
  rw [if_neg (by decide)]
  exact decide_eq_decide.2 (by omega)
theorem ga (l : List Nat) (i : Nat) : l.toArray[i]! = List.getD l i default := by
  simp
theorem sw (l : List Nat) (i j : Nat) : swp l.toArray i j = (List.set (List.set l i (List.getD l j default)) j (List.getD l i default)).toArray := by
  unfold swp
  simp
theorem ins1 (a : Nat) : ∀ (q j : Nat) (l : List Nat), j - a < q → slices_insertionSortOrdered_uint64_L1 (a : Int) q (j : Int) l = (insInner ltN a j l.toArray).toList := by
  intro q
  induction q with
  | zero => intro j l h; omega
  | succ q ih =>
    intro j l h
    cases j with
    | zero => rw [slices_insertionSortOrdered_uint64_L1, if_neg (by omega)]; rfl
    | succ j =>
      rw [slices_insertionSortOrdered_uint64_L1, insInner]
      simp only [bndE, lessN, show ((j + 1 : Nat) : Int) - 1 = (j : Int) from by omega, Int.toNat_natCast, ga]
      by_cases h1 : j + 1 > a
      · rw [if_pos (by omega)]
        by_cases h2 : ltN (List.getD l (j + 1) default) (List.getD l j default) = true
        · rw [if_pos h2, if_pos (by rw [h2, decide_eq_true h1]; rfl), sw, ih j _ (by omega)]
        · rw [if_neg h2, if_neg (by intro e; rw [Bool.and_eq_true] at e; exact h2 e.2)]
      · rw [if_neg (by omega), if_neg (by intro e; rw [Bool.and_eq_true] at e; exact h1 (of_decide_eq_true e.1))]
theorem ins0 (a b : Nat) : ∀ (q i : Nat) (l : List Nat), b - i < q → slices_insertionSortOrdered_uint64_L0 (a : Int) (b : Int) q (i : Int) l = (insOuter ltN a b i l.toArray).toList := by
  intro q
  induction q with
  | zero => intro j l h; omega
  | succ q ih =>
    intro i l h
    rw [slices_insertionSortOrdered_uint64_L0, insOuter]
    simp only [bndE]
    by_cases h1 : i < b
    · rw [if_pos (by omega), if_pos h1, ins1 a _ i l (by omega), show (i : Int) + 1 = ((i + 1 : Nat) : Int) from by omega, ih (i + 1) _ (by omega)]
    · rw [if_neg (by omega), if_neg h1]
theorem ins_eq (a b : Nat) (l : List Nat) : slices_insertionSortOrdered_uint64 l (a : Int) (b : Int) = (insertionSort ltN l.toArray a b).toList := by
  unfold slices_insertionSortOrdered_uint64 insertionSort
  simp only [bndE]
  rw [show (a : Int) + 1 = ((a + 1 : Nat) : Int) from by omega, ins0 a b _ (a + 1) l (by omega)]
theorem sift0 (hi F : Nat) : ∀ (q r : Nat) (l : List Nat), hi - r < q → lp (slices_siftDownOrdered_uint64_L0 (hi : Int) (F : Int) q (r : Int) l) (fun s => s) = (siftDown ltN hi F r l.toArray).toList := by
  intro q
  induction q with
  | zero => intro j l h; omega
  | succ q ih =>
    intro r l h
    rw [slices_siftDownOrdered_uint64_L0, siftDown]
    simp only [bndE, lessN, ga, show (2 * (r : Int)) + 1 = ((2 * r + 1 : Nat) : Int) from by omega, show ((2 * r + 1 : Nat) : Int) + 1 = ((2 * r + 1 + 1 : Nat) : Int) from by omega, show (F : Int) + (r : Int) = ((F + r : Nat) : Int) from by omega, show (F : Int) + ((2 * r + 1 : Nat) : Int) = ((F + (2 * r + 1) : Nat) : Int) from by omega, show ((F + (2 * r + 1) : Nat) : Int) + 1 = ((F + (2 * r + 1) + 1 : Nat) : Int) from by omega, Int.toNat_natCast]
    by_cases h1 : 2 * r + 1 ≥ hi
    · rw [if_pos (by omega), dif_pos h1]; rfl
    · rw [if_neg (by omega), dif_neg h1]
      by_cases h2 : 2 * r + 1 + 1 < hi
      · rw [if_pos (by omega)]
        by_cases h3 : ltN (List.getD l (F + (2 * r + 1)) default) (List.getD l (F + (2 * r + 1) + 1) default) = true
        · rw [if_pos (show (decide (2 * r + 1 + 1 < hi) && ltN (List.getD l (F + (2 * r + 1)) default) (List.getD l (F + (2 * r + 1) + 1) default)) = true from by rw [h3, decide_eq_true h2]; rfl), if_pos h3]
          simp only [show 2 * r + 1 + 1 = 2 * r + 2 from rfl, show (F : Int) + ((2 * r + 2 : Nat) : Int) = ((F + (2 * r + 2) : Nat) : Int) from by omega, Int.toNat_natCast]
          by_cases h4 : ltN (List.getD l (F + r) default) (List.getD l (F + (2 * r + 2)) default) = true
          · rw [if_pos h4, if_neg (by rw [h4]; decide), dif_pos (by omega), sw, ih (2 * r + 2) _ (by omega)]
          · rw [if_neg h4, if_pos (by rw [Bool.eq_false_iff.2 h4]; rfl)]; rfl
        · rw [if_neg (show ¬ (decide (2 * r + 1 + 1 < hi) && ltN (List.getD l (F + (2 * r + 1)) default) (List.getD l (F + (2 * r + 1) + 1) default)) = true from by intro e; rw [Bool.and_eq_true] at e; exact h3 e.2), if_neg h3]
          simp only [show (F : Int) + ((2 * r + 1 : Nat) : Int) = ((F + (2 * r + 1) : Nat) : Int) from by omega, Int.toNat_natCast]
          by_cases h4 : ltN (List.getD l (F + r) default) (List.getD l (F + (2 * r + 1)) default) = true
          · rw [if_pos h4, if_neg (by rw [h4]; decide), sw, ih (2 * r + 1) _ (by omega)]
          · rw [if_neg h4, if_pos (by rw [Bool.eq_false_iff.2 h4]; rfl)]; rfl
      · rw [if_neg (by omega), if_neg (show ¬ (decide (2 * r + 1 + 1 < hi) && ltN (List.getD l (F + (2 * r + 1)) default) (List.getD l (F + (2 * r + 1) + 1) default)) = true from by intro e; rw [Bool.and_eq_true] at e; exact h2 (of_decide_eq_true e.1))]
        by_cases h4 : ltN (List.getD l (F + r) default) (List.getD l (F + (2 * r + 1)) default) = true
        · rw [if_pos h4, if_neg (by rw [h4]; decide), sw, ih (2 * r + 1) _ (by omega)]
        · rw [if_neg h4, if_pos (by rw [Bool.eq_false_iff.2 h4]; rfl)]; rfl
theorem sift_eq (hi F r : Nat) (l : List Nat) : slices_siftDownOrdered_uint64 l (r : Int) (hi : Int) (F : Int) = (siftDown ltN hi F r l.toArray).toList := by
  unfold slices_siftDownOrdered_uint64
  exact sift0 hi F _ r l (by omega)
theorem hb0 (a n : Nat) : ∀ (q k : Nat) (l : List Nat), k < q → slices_heapSortOrdered_uint64_L0 (a : Int) ((a + n : Nat) : Int) q ((k : Int) - 1) l = (heapBuild ltN n a k l.toArray).toList := by
  intro q
  induction q with
  | zero => intro j l h; omega
  | succ q ih =>
    intro k l h
    cases k with
    | zero => rw [slices_heapSortOrdered_uint64_L0, if_neg (by omega), heapBuild]
    | succ k =>
      rw [slices_heapSortOrdered_uint64_L0, if_pos (by omega), heapBuild]
      simp only [bndE]
      rw [show ((k + 1 : Nat) : Int) - 1 = (k : Int) from by omega, show ((a + n : Nat) : Int) - (a : Int) = (n : Int) from by omega, sift_eq, ih k _ (by omega)]
theorem hp0 (a : Nat) : ∀ (q k : Nat) (l : List Nat), k < q → slices_heapSortOrdered_uint64_L1 (a : Int) q ((k : Int) - 1) l = (heapPop ltN a k l.toArray).toList := by
  intro q
  induction q with
  | zero => intro j l h; omega
  | succ q ih =>
    intro k l h
    cases k with
    | zero => rw [slices_heapSortOrdered_uint64_L1, if_neg (by omega), heapPop]
    | succ k =>
      rw [slices_heapSortOrdered_uint64_L1, if_pos (by omega), heapPop]
      simp only [bndE, show ((k + 1 : Nat) : Int) - 1 = (k : Int) from by omega, show (a : Int) + (k : Int) = ((a + k : Nat) : Int) from by omega, Int.toNat_natCast]
      rw [show (0 : Int) = ((0 : Nat) : Int) from rfl, sift_eq, sw, ih k _ (by omega)]
theorem heap_eq (a n : Nat) (h : 1 ≤ n) (l : List Nat) : slices_heapSortOrdered_uint64 l (a : Int) ((a + n : Nat) : Int) = (heapSort ltN l.toArray a (a + n)).toList := by
  unfold slices_heapSortOrdered_uint64 heapSort
  simp only [bndE, show ((a + n : Nat) : Int) - (a : Int) = (n : Int) from by omega, show a + n - a = n from by omega, show Int.toNat ((n : Int) - 1) = n - 1 from by omega]
  rw [show (((n - 1) / 2 : Nat) : Int) = ((((n - 1) / 2 + 1 : Nat)) : Int) - 1 from by omega, hb0 a n _ _ l (by omega), hp0 a _ n _ (by omega)]
theorem rev0 : ∀ (q i j : Nat) (l : List Nat), j - i < q → slices_reverseRangeOrdered_uint64_L0 q (i : Int) (j : Int) l = (reverseLoop i j l.toArray).toList := by
  intro q
  induction q with
  | zero => intro i j l h; omega
  | succ q ih =>
    intro i j l h
    rw [slices_reverseRangeOrdered_uint64_L0, reverseLoop]
    simp only [bndE, Int.toNat_natCast]
    by_cases h1 : i < j
    · rw [if_pos (by omega), if_pos h1, show (i : Int) + 1 = ((i + 1 : Nat) : Int) from by omega, show (j : Int) - 1 = ((j - 1 : Nat) : Int) from by omega, ih _ _ _ (by omega), sw]
    · rw [if_neg (by omega), if_neg h1]
theorem rev_eq (a b : Nat) (h : 1 ≤ b) (l : List Nat) : slices_reverseRangeOrdered_uint64 l (a : Int) (b : Int) = (reverseRange l.toArray a b).toList := by
  unfold slices_reverseRangeOrdered_uint64 reverseRange
  simp only [bndE]
  rw [show (b : Int) - 1 = ((b - 1 : Nat) : Int) from by omega, rev0 _ _ _ _ (by omega)]
theorem np {b : Bool} (h : b = true) : ¬ (!b) = true := by rw [h]; decide
theorem pn {b : Bool} (h : ¬ b = true) : (!b) = true := by rw [Bool.eq_false_iff.2 h]; rfl
theorem andN {p : Prop} [Decidable p] {b : Bool} (h : ¬ p) : ¬ (decide p && b) = true := by intro e; rw [Bool.and_eq_true] at e; exact h (of_decide_eq_true e.1)
theorem andB {p : Prop} [Decidable p] {b : Bool} (h : ¬ b = true) : ¬ (decide p && b) = true := by intro e; rw [Bool.and_eq_true] at e; exact h e.2
theorem andY {p : Prop} [Decidable p] {b : Bool} (h : p) (h2 : b = true) : (decide p && b) = true := by rw [h2, decide_eq_true h]; rfl
theorem up3 (a j : Nat) (l : List Nat) : ∀ (q i : Nat), j + 1 - i < q → slices_partitionOrdered_uint64_L3 (a : Int) (j : Int) l q (i : Int) = ((scanUp (fun x => ltN x l.toArray[a]!) l.toArray j i : Nat) : Int) := by
  intro q
  induction q with
  | zero => intro i h; omega
  | succ q ih =>
    intro i h
    rw [slices_partitionOrdered_uint64_L3, scanUp]
    simp only [bndE, lessN, ga, Int.toNat_natCast]
    by_cases h1 : i ≤ j
    · rw [if_pos (by omega)]
      by_cases h2 : ltN (List.getD l i default) (List.getD l a default) = true
      · rw [if_pos h2, if_pos (andY h1 h2), show (i : Int) + 1 = ((i + 1 : Nat) : Int) from by omega, ih _ (by omega)]; simp only [ga]
      · rw [if_neg h2, if_neg (andB h2)]
    · rw [if_neg (by omega), if_neg (andN h1)]
theorem dn4 (a i : Nat) (hi : a < i) (l : List Nat) : ∀ (q j : Nat), j < q + a → a ≤ j → slices_partitionOrdered_uint64_L4 (a : Int) l (i : Int) q (j : Int) = ((scanDown (fun x => !ltN x l.toArray[a]!) l.toArray i j : Nat) : Int) := by
  intro q
  induction q with
  | zero => intro i h; omega
  | succ q ih =>
    intro j h ha
    rw [slices_partitionOrdered_uint64_L4]
    simp only [bndE, lessN, Int.toNat_natCast]
    cases j with
    | zero => rw [if_neg (by omega), scanDown]
    | succ j =>
      rw [scanDown]
      simp only [ga]
      by_cases h1 : i ≤ j + 1
      · rw [if_pos (by omega)]
        by_cases h2 : ltN (List.getD l (j + 1) default) (List.getD l a default) = true
        · rw [if_pos h2, if_neg (andB (np h2))]
        · rw [if_neg h2, if_pos (andY h1 (pn h2)), show ((j + 1 : Nat) : Int) - 1 = (j : Int) from by omega, ih j (by omega) (by omega)]; simp only [ga]
      · rw [if_neg (by omega), if_neg (andN h1)]
theorem part2 (a b : Nat) : ∀ (q i j : Nat) (l : List Nat), j + 3 < q + i → a < i → a ≤ j → j < b → i ≤ j + 2 →
    slices_partitionOrdered_uint64_L2 (a : Int) (b : Int) q (i : Int) (j : Int) l = ((partLoop ltN a i j l.toArray).2.toList, ((partLoop ltN a i j l.toArray).1 : Int)) := by
  intro q
  induction q with
  | zero => intro i j l h h1 h2 h3 h4; omega
  | succ q ih =>
    intro i j l h h1 h2 h3 h4
    rw [slices_partitionOrdered_uint64_L2, partLoop_eq]
    simp only [bndE]
    rw [up3 a j l _ i (by omega)]
    have g1 := scanUp_ge (fun x => ltN x l.toArray[a]!) l.toArray j i
    generalize scanUp (fun x => ltN x l.toArray[a]!) l.toArray j i = i2 at g1 ⊢
    rw [dn4 a i2 (by omega) l _ j (by omega) (by omega)]
    have g2 := scanDown_le (fun x => !ltN x l.toArray[a]!) l.toArray i2 j
    generalize scanDown (fun x => !ltN x l.toArray[a]!) l.toArray i2 j = j2 at g2 ⊢
    by_cases c : i2 > j2
    · rw [if_pos (by omega), if_pos c]
    · rw [if_neg (by omega), if_neg c, show (i2 : Int) + 1 = ((i2 + 1 : Nat) : Int) from by omega, show (j2 : Int) - 1 = ((j2 - 1 : Nat) : Int) from by omega]
      simp only [Int.toNat_natCast]
      rw [ih _ _ _ (by omega) (by omega) (by omega) (by omega) (by omega), sw]
theorem up0 (l : List Nat) (p1 p2 p3 : Int) (x y : Nat) : ∀ (q : Nat) (z : Int), slices_partitionOrdered_uint64_L0 l p1 p2 p3 x y q z = slices_partitionOrdered_uint64_L3 p1 (p2 - 1) (List.set (List.set l (Int.toNat p1) x) (Int.toNat p3) y) q z := by
  intro q
  induction q with
  | zero => intro z; rfl
  | succ q ih => intro z; rw [slices_partitionOrdered_uint64_L0, slices_partitionOrdered_uint64_L3]; simp only [ih]
theorem dn1 (l : List Nat) (p1 p3 : Int) (x y : Nat) (i : Int) : ∀ (q : Nat) (z : Int), slices_partitionOrdered_uint64_L1 l p1 p3 x y i q z = slices_partitionOrdered_uint64_L4 p1 (List.set (List.set l (Int.toNat p1) x) (Int.toNat p3) y) i q z := by
  intro q
  induction q with
  | zero => intro z; rfl
  | succ q ih => intro z; rw [slices_partitionOrdered_uint64_L1, slices_partitionOrdered_uint64_L4]; simp only [ih]
theorem part_eq (a b p : Nat) (l : List Nat) (h : a < b) : slices_partitionOrdered_uint64 l (a : Int) (b : Int) (p : Int) = (((Sort.partition ltN l.toArray a b p).1 : Int), (Sort.partition ltN l.toArray a b p).2.1, (Sort.partition ltN l.toArray a b p).2.2.toList) := by
  unfold slices_partitionOrdered_uint64 Sort.partition
  simp only [bndE, up0, dn1, Int.toNat_natCast, sw]
  rw [show (a : Int) + 1 = ((a + 1 : Nat) : Int) from by omega, show (b : Int) - 1 = ((b - 1 : Nat) : Int) from by omega]
  generalize List.set (List.set l a (List.getD l p default)) p (List.getD l a default) = m
  rw [up3 a (b - 1) m _ (a + 1) (by omega)]
  have g1 := scanUp_ge (fun x => ltN x m.toArray[a]!) m.toArray (b - 1) (a + 1)
  generalize scanUp (fun x => ltN x m.toArray[a]!) m.toArray (b - 1) (a + 1) = i2 at g1 ⊢
  rw [dn4 a i2 (by omega) m _ (b - 1) (by omega) (by omega)]
  have g2 := scanDown_le (fun x => !ltN x m.toArray[a]!) m.toArray i2 (b - 1)
  generalize scanDown (fun x => !ltN x m.toArray[a]!) m.toArray i2 (b - 1) = j2 at g2 ⊢
  by_cases c : i2 > j2
  · rw [if_pos (by omega), if_pos c]; simp only [Int.toNat_natCast]
  · rw [if_neg (by omega), if_neg c]
    simp only [show (i2 : Int) + 1 = ((i2 + 1 : Nat) : Int) from by omega, show (j2 : Int) - 1 = ((j2 - 1 : Nat) : Int) from by omega, Int.toNat_natCast]
    rw [part2 a b _ _ _ _ (by omega) (by omega) (by omega) (by omega) (by omega)]
    simp only [Int.toNat_natCast]
    generalize partLoop ltN a (i2 + 1) (j2 - 1) _ = r
    obtain ⟨r1, r2⟩ := r
    obtain ⟨r2⟩ := r2
    simp only [sw]
theorem eup (a j : Nat) (l : List Nat) : ∀ (q i : Nat), j + 1 - i < q → slices_partitionEqualOrdered_uint64_L1 (a : Int) (j : Int) l q (i : Int) = ((scanUp (fun x => !ltN l.toArray[a]! x) l.toArray j i : Nat) : Int) := by
  intro q
  induction q with
  | zero => intro i h; omega
  | succ q ih =>
    intro i h
    rw [slices_partitionEqualOrdered_uint64_L1, scanUp]
    simp only [bndE, lessN, ga, Int.toNat_natCast]
    by_cases h1 : i ≤ j
    · rw [if_pos (by omega)]
      by_cases h2 : ltN (List.getD l a default) (List.getD l i default) = true
      · rw [if_pos h2, if_neg (andB (np h2))]
      · rw [if_neg h2, if_pos (andY h1 (pn h2)), show (i : Int) + 1 = ((i + 1 : Nat) : Int) from by omega, ih _ (by omega)]; simp only [ga]
    · rw [if_neg (by omega), if_neg (andN h1)]
theorem edn (a i : Nat) (hi : a < i) (l : List Nat) : ∀ (q j : Nat), j < q + a → a ≤ j → slices_partitionEqualOrdered_uint64_L2 (a : Int) l (i : Int) q (j : Int) = ((scanDown (fun x => ltN l.toArray[a]! x) l.toArray i j : Nat) : Int) := by
  intro q
  induction q with
  | zero => intro i h; omega
  | succ q ih =>
    intro j h ha
    rw [slices_partitionEqualOrdered_uint64_L2]
    simp only [bndE, lessN, Int.toNat_natCast]
    cases j with
    | zero => rw [if_neg (by omega), scanDown]
    | succ j =>
      rw [scanDown]
      simp only [ga]
      by_cases h1 : i ≤ j + 1
      · rw [if_pos (by omega)]
        by_cases h2 : ltN (List.getD l a default) (List.getD l (j + 1) default) = true
        · rw [if_pos h2, if_pos (andY h1 h2), show ((j + 1 : Nat) : Int) - 1 = (j : Int) from by omega, ih j (by omega) (by omega)]; simp only [ga]
        · rw [if_neg h2, if_neg (andB h2)]
      · rw [if_neg (by omega), if_neg (andN h1)]
theorem epart (a b : Nat) : ∀ (q i j : Nat) (l : List Nat), j + 3 < q + i → a < i → a ≤ j → j < b → i ≤ j + 2 →
    slices_partitionEqualOrdered_uint64_L0 (a : Int) (b : Int) q (i : Int) (j : Int) l = ((partEqLoop ltN a i j l.toArray).2.toList, ((partEqLoop ltN a i j l.toArray).1 : Int)) := by
  intro q
  induction q with
  | zero => intro i j l h h1 h2 h3 h4; omega
  | succ q ih =>
    intro i j l h h1 h2 h3 h4
    rw [slices_partitionEqualOrdered_uint64_L0, partEqLoop_eq]
    simp only [bndE]
    rw [eup a j l _ i (by omega)]
    have g1 := scanUp_ge (fun x => !ltN l.toArray[a]! x) l.toArray j i
    generalize scanUp (fun x => !ltN l.toArray[a]! x) l.toArray j i = i2 at g1 ⊢
    rw [edn a i2 (by omega) l _ j (by omega) (by omega)]
    have g2 := scanDown_le (fun x => ltN l.toArray[a]! x) l.toArray i2 j
    generalize scanDown (fun x => ltN l.toArray[a]! x) l.toArray i2 j = j2 at g2 ⊢
    by_cases c : i2 > j2
    · rw [if_pos (by omega), if_pos c]
    · rw [if_neg (by omega), if_neg c, show (i2 : Int) + 1 = ((i2 + 1 : Nat) : Int) from by omega, show (j2 : Int) - 1 = ((j2 - 1 : Nat) : Int) from by omega]
      simp only [Int.toNat_natCast]
      rw [ih _ _ _ (by omega) (by omega) (by omega) (by omega) (by omega), sw]
theorem eq_eq (a b p : Nat) (l : List Nat) (h : a < b) : slices_partitionEqualOrdered_uint64 l (a : Int) (b : Int) (p : Int) = (((partitionEqual ltN l.toArray a b p).1 : Int), (partitionEqual ltN l.toArray a b p).2.toList) := by
  unfold slices_partitionEqualOrdered_uint64 partitionEqual
  simp only [bndE, Int.toNat_natCast, sw]
  rw [show (a : Int) + 1 = ((a + 1 : Nat) : Int) from by omega, show (b : Int) - 1 = ((b - 1 : Nat) : Int) from by omega, epart a b _ _ _ _ (by omega) (by omega) (by omega) (by omega) (by omega)]
end Go.Proofs.Ytggnajpokhaaiaa
