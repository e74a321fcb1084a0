/-
  The library's sort of numbers of 64 bits, told, is the sort that the library of proofs knows: third part. Conditions: none beyond each law's own.
-/
import Derived.Test.YtggnajpokhaaiaaTbN
namespace Go.Proofs.Ytggnajpokhaaiaa
set_option linter.unusedVariables false
set_option linter.unusedSimpArgs false
open Go.Sort
theorem sdn_stop (p : Nat → Bool) (d : Array Nat) {i j : Nat} (h : i > j) : scanDown p d i j = j := by
  cases j with
  | zero => rfl
  | succ j => rw [scanDown, if_neg (andN (by omega))]
theorem sup_stop (p : Nat → Bool) (d : Array Nat) {i j : Nat} (h : i > j) : scanUp p d j i = i := by
  rw [scanUp, if_neg (andN (by omega))]
theorem scans (p q : Nat → Bool) (d : Array Nat) {a i j : Nat} (h1 : a < i) (h2 : a ≤ j) (h3 : i ≤ j + 2) : i ≤ scanUp p d j i ∧ scanDown q d (scanUp p d j i) j ≤ j ∧ a ≤ scanDown q d (scanUp p d j i) j ∧ (i ≤ j + 1 → scanUp p d j i ≤ j + 1) ∧ (j < i → scanUp p d j i = i) := by
  obtain ⟨u1, u2, _, _⟩ := scanUp_spec p d j _ i rfl
  obtain ⟨v1, v2, _, _⟩ := scanDown_spec q d (scanUp p d j i) j
  refine ⟨u1, v1, ?_, u2, fun h => sup_stop p d h⟩
  by_cases c : scanUp p d j i ≤ j + 1
  · have := v2 c; omega
  · rw [sdn_stop q d (by omega)]; exact h2
theorem part_range (a b : Nat) : ∀ (n i j : Nat) (d : Array Nat), j + 3 ≤ n + i → a < i → a ≤ j → j < b → i ≤ j + 2 → a ≤ (partLoop ltN a i j d).1 ∧ (partLoop ltN a i j d).1 < b := by
  intro n
  induction n with
  | zero => intro i j d h h1 h2 h3 h4; omega
  | succ n ih =>
    intro i j d h h1 h2 h3 h4
    rw [partLoop_eq]
    obtain ⟨s1, s2, s3, s4, s5⟩ := scans (fun x => ltN x d[a]!) (fun x => !ltN x d[a]!) d h1 h2 h4
    generalize scanDown (fun x => !ltN x d[a]!) d (scanUp (fun x => ltN x d[a]!) d j i) j = j2 at s2 s3 ⊢
    generalize scanUp (fun x => ltN x d[a]!) d j i = i2 at s1 s4 s5 ⊢
    by_cases c : i2 > j2
    · rw [if_pos c]; exact ⟨s3, by show j2 < b; omega⟩
    · rw [if_neg c]; exact ih _ _ _ (by omega) (by omega) (by omega) (by omega) (by omega)
theorem partition_range (a b p : Nat) (d : Array Nat) (h : a < b) : a ≤ (Sort.partition ltN d a b p).1 ∧ (Sort.partition ltN d a b p).1 < b := by
  rw [partition_fst]
  exact part_range a b (b + 3) _ _ _ (by omega) (by omega) (by omega) (by omega) (by omega)
theorem epart_range (a b : Nat) : ∀ (n i j : Nat) (d : Array Nat), j + 3 ≤ n + i → a < i → a ≤ j → j < b → i ≤ j + 2 → i ≤ b → a < (partEqLoop ltN a i j d).1 ∧ (partEqLoop ltN a i j d).1 ≤ b := by
  intro n
  induction n with
  | zero => intro i j d h h1 h2 h3 h4; omega
  | succ n ih =>
    intro i j d h h1 h2 h3 h4 h5
    rw [partEqLoop_eq]
    obtain ⟨s1, s2, s3, s4, s5⟩ := scans (fun x => !ltN d[a]! x) (fun x => ltN d[a]! x) d h1 h2 h4
    generalize scanDown (fun x => ltN d[a]! x) d (scanUp (fun x => !ltN d[a]! x) d j i) j = j2 at s2 s3 ⊢
    generalize scanUp (fun x => !ltN d[a]! x) d j i = i2 at s1 s4 s5 ⊢
    have k : i2 ≤ b := by
      by_cases c : j < i
      · rw [s5 c]; exact h5
      · have := s4 (by omega); omega
    by_cases c : i2 > j2
    · rw [if_pos c]; exact ⟨by show a < i2; omega, k⟩
    · rw [if_neg c]; exact ih _ _ _ (by omega) (by omega) (by omega) (by omega) (by omega) (by omega)
theorem partitionEqual_range (a b p : Nat) (d : Array Nat) (h : a < b) : a < (partitionEqual ltN d a b p).1 ∧ (partitionEqual ltN d a b p).1 ≤ b :=
  epart_range a b (b + 3) _ _ _ (by omega) (by omega) (by omega) (by omega) (by omega) (by omega)
theorem bX {x y : Nat} (hx : x < 18446744073709551616) (hy : y < 18446744073709551616) : bXor64 x y = x ^^^ y := by
  have h : x ^^^ y < 2 ^ 64 := Nat.xor_lt_two_pow (show x < 2 ^ 64 by omega) (show y < 2 ^ 64 by omega)
  unfold bXor64
  have e1 : BitVec.ofInt 64 ((x : Nat) : Int) = BitVec.ofNat 64 x := BitVec.ofInt_natCast ..
  have e2 : BitVec.ofInt 64 ((y : Nat) : Int) = BitVec.ofNat 64 y := BitVec.ofInt_natCast ..
  rw [e1, e2, BitVec.toNat_xor, BitVec.toNat_ofNat, BitVec.toNat_ofNat, Nat.mod_eq_of_lt (show x < 2 ^ 64 by omega), Nat.mod_eq_of_lt (show y < 2 ^ 64 by omega), IntKind.wrap_u64]
  omega
theorem bA {x y : Nat} (hx : x < 18446744073709551616) (hy : y < 18446744073709551616) : bAnd64 x y = x &&& y := by
  have h : x &&& y ≤ y := Nat.and_le_right
  unfold bAnd64
  have e1 : BitVec.ofInt 64 ((x : Nat) : Int) = BitVec.ofNat 64 x := BitVec.ofInt_natCast ..
  have e2 : BitVec.ofInt 64 ((y : Nat) : Int) = BitVec.ofNat 64 y := BitVec.ofInt_natCast ..
  rw [e1, e2, BitVec.toNat_and, BitVec.toNat_ofNat, BitVec.toNat_ofNat, Nat.mod_eq_of_lt (show x < 2 ^ 64 by omega), Nat.mod_eq_of_lt (show y < 2 ^ 64 by omega), IntKind.wrap_u64]
  omega
theorem xn_eq (k : Nat) (hk : k < 18446744073709551616) : slices_xorshift_Next k = (xorNextN k, xorNextN k) := by
  have m : ∀ z : Nat, z % 18446744073709551616 < 18446744073709551616 := fun z => Nat.mod_lt _ (by decide)
  have xl : ∀ {x y : Nat}, x < 18446744073709551616 → y < 18446744073709551616 → x ^^^ y < 18446744073709551616 := fun {x y} h1 h2 => by
    have h : x ^^^ y < 2 ^ 64 := Nat.xor_lt_two_pow (show x < 2 ^ 64 by omega) (show y < 2 ^ 64 by omega)
    omega
  have e1 : bXor64 k (bShl64 k 13) = k ^^^ (k * 8192 % 18446744073709551616) := by
    rw [bShl64_eq' _ _ (by omega), bX hk (m _)]
  have l1 := xl hk (m (k * 8192))
  unfold slices_xorshift_Next xorNextN
  simp only [e1]
  generalize k ^^^ (k * 8192 % 18446744073709551616) = A at l1 ⊢
  have e2 : bXor64 A (A / 128) = A ^^^ (A / 128) := bX l1 (Nat.lt_of_le_of_lt (Nat.div_le_self _ _) l1)
  have l2 := xl l1 (Nat.lt_of_le_of_lt (Nat.div_le_self A 128) l1)
  simp only [e2]
  generalize A ^^^ (A / 128) = B at l2 ⊢
  rw [bShl64_eq' _ _ (by omega), bX l2 (m _)]
theorem br1 (a L m q idx k : Nat) (l : List Nat) (hi : idx ≤ a + L / 4 * 2 + 1) (hk : k < 18446744073709551616) (hm : m ≤ 18446744073709551615) :
    slices_breakPatternsOrdered_uint64_L0 (a : Int) ((a + L : Nat) : Int) m (q + 1) (idx : Int) k l =
      slices_breakPatternsOrdered_uint64_L0 (a : Int) ((a + L : Nat) : Int) m q ((idx + 1 : Nat) : Int) (breakStep a L m (UInt64.ofNat k, l.toArray) idx).1.toNat (breakStep a L m (UInt64.ofNat k, l.toArray) idx).2.toList := by
  have hx : (xorNext (UInt64.ofNat k)).toNat = xorNextN k := by rw [xorNext_toNat]; congr 1; simp; omega
  have hl := xorNextN_lt k hk
  rw [slices_breakPatternsOrdered_uint64_L0]
  unfold breakStep
  simp only [bndE, hx, xn_eq k hk, show Int.toNat (((a + L : Nat) : Int) - (a : Int)) = L from by omega, show ((a + L : Nat) : Int) - (a : Int) = (L : Int) from by omega]
  rw [if_pos (by omega), bA hl (by omega)]
  generalize xorNextN k &&& (m - 1) = o
  have e : (if ((o : Nat) : Int) ≥ (L : Int) then ((o : Nat) : Int) - (L : Int) else ((o : Nat) : Int)) = (((if o ≥ L then o - L else o) : Nat) : Int) := by
    by_cases c : o ≥ L
    · rw [if_pos (by omega), if_pos c]; omega
    · rw [if_neg (by omega), if_neg c]
  rw [e]
  generalize (if o ≥ L then o - L else o) = o2
  simp only [show (a : Int) + (o2 : Int) = ((a + o2 : Nat) : Int) from by omega, Int.toNat_natCast, sw]
  rfl
theorem bp_eq (a L : Nat) (l : List Nat) (hL : L ≤ 4611686018427387904) : slices_breakPatternsOrdered_uint64 l (a : Int) ((a + L : Nat) : Int) = (breakPatterns l.toArray a (a + L)).toList := by
  unfold slices_breakPatternsOrdered_uint64 breakPatterns
  simp only [bndE, show Int.toNat (((a + L : Nat) : Int) - (a : Int)) = L from by omega, show ((a + L : Nat) : Int) - (a : Int) = (L : Int) from by omega, show a + L - a = L from by omega, Int.toNat_natCast]
  by_cases c : L ≥ 8
  · rw [if_pos (by omega), if_pos c]
    have hn : slices_nextPowerOfTwo (L : Int) = 1 <<< bitsLen L := by
      unfold slices_nextPowerOfTwo
      rw [Int.toNat_natCast, (np_eq (by omega) hL).1, Nat.one_shiftLeft]
    have hb : 1 <<< bitsLen L ≤ 2 * L := by rw [Nat.one_shiftLeft]; exact two_pow_bitsLen_le (by omega)
    rw [hn]
    generalize 1 <<< bitsLen L = m at hb ⊢
    rw [show (a : Int) + ((L / 4 * 2 : Nat) : Int) - 1 = ((a + L / 4 * 2 - 1 : Nat) : Int) from by omega]
    generalize hx : a + L / 4 * 2 - 1 = x
    obtain ⟨q, hq⟩ : ∃ q, Int.toNat (((a + L : Nat) : Int) - (x : Int)) + 1 = q + 1 + 1 + 1 + 1 := ⟨Int.toNat (((a + L : Nat) : Int) - (x : Int)) - 3, by omega⟩
    rw [hq, br1 a L m _ x _ _ (by omega) (by omega) (by omega), br1 a L m _ (x + 1) _ _ (by omega) (UInt64.toNat_lt _) (by omega), br1 a L m _ (x + 1 + 1) _ _ (by omega) (UInt64.toNat_lt _) (by omega), slices_breakPatternsOrdered_uint64_L0]
    rw [if_neg (by omega)]
    simp only [UInt64.ofNat_toNat, Array.toArray_toList]
  · rw [if_neg (by omega), if_neg c]
theorem hint2 (h : Hint) : (hintN h = 2) ↔ h = .decreasing := by cases h <;> decide
theorem hint1 (h : Hint) : (hintN h = 1) ↔ h = .increasing := by cases h <;> decide
def tailP (q : Nat) (a b lim : Int) (pv : Int) (d : List Nat) : Unit ⊕ (List Nat) :=
  bnd (slices_partitionOrdered_uint64 d a b pv) fun r => if r.1 - a < b - r.1 then bnd (pdqT r.2.2 a r.1 lim) fun y => slices_pdqsortOrdered_uint64_L0 q (r.1 + 1) b lim (decide (r.1 - a ≥ (((Int.toNat (b - a)) / 8 : Nat) : Int))) r.2.1 y else bnd (pdqT r.2.2 (r.1 + 1) b lim) fun y => slices_pdqsortOrdered_uint64_L0 q a r.1 lim (decide (b - r.1 ≥ (((Int.toNat (b - a)) / 8 : Nat) : Int))) r.2.1 y
def tailT (q : Nat) (a b lim : Int) (wb wp : Bool) (pv : Int) (d : List Nat) : Unit ⊕ (List Nat) :=
  if a > 0 then bnd (List.getD d (Int.toNat (a - 1)) default) fun x => bnd (List.getD d (Int.toNat pv) default) fun y => bnd (cmp_Less_uint64 x y) fun r => if r = true then tailP q a b lim pv d else bnd (slices_partitionEqualOrdered_uint64 d a b pv) fun z => slices_pdqsortOrdered_uint64_L0 q z.1 b lim wb wp z.2 else tailP q a b lim pv d
theorem pdq0 : ∀ (q a b lim : Nat) (wb wp : Bool) (l : List Nat), b - a < q → a ≤ b → b ≤ 4611686018427387904 →
    lp (slices_pdqsortOrdered_uint64_L0 q (a : Int) (b : Int) (lim : Int) wb wp l) (fun _ => default) = (pdq ltN l.toArray a b lim wb wp).toList := by
  intro q
  induction q with
  | zero => intro a b lim wb wp l h; omega
  | succ q ih =>
    intro a b lim wb wp l h hab hb
    rw [slices_pdqsortOrdered_uint64_L0, pdq]
    by_cases c1 : b - a ≤ 12
    · rw [if_pos (by omega), if_pos c1, ins_eq]; rfl
    rw [if_neg (by omega), if_neg c1]
    by_cases c2 : lim = 0
    · subst c2
      obtain ⟨n, rfl⟩ : ∃ n, b = a + n := ⟨b - a, by omega⟩
      rw [if_pos (by omega), if_pos rfl, heap_eq a n (by omega)]; rfl
    rw [if_neg (by omega), if_neg c2]
    simp only []
    have hX : (if wb = true then ((lim : Int), l) else bnd (slices_breakPatternsOrdered_uint64 l (a : Int) (b : Int)) fun y => ((lim : Int) - 1, y)) = (((if (!wb) = true then lim - 1 else lim : Nat) : Int), (if (!wb) = true then breakPatterns l.toArray a b else l.toArray).toList) := by
      cases wb with
      | true => rfl
      | false =>
        obtain ⟨n, rfl⟩ : ∃ n, b = a + n := ⟨b - a, by omega⟩
        rw [if_neg (by decide), bndE, bp_eq a n l (by omega), show (lim : Int) - 1 = ((lim - 1 : Nat) : Int) from by omega]
        rfl
    rw [hX, bndE]
    generalize (if (!wb) = true then lim - 1 else lim) = lim1
    generalize (if (!wb) = true then breakPatterns l.toArray a b else l.toArray) = d1
    simp only
    have hr := choosePivot_holds ltN d1 a b (by omega)
    rw [cp_eq d1.toList, bndE, Array.toArray_toList]
    generalize choosePivot ltN d1 a b = c at hr ⊢
    obtain ⟨pv, hint⟩ := c
    simp only at hr ⊢
    have hY : (if hintN hint = 2 then bnd (slices_reverseRangeOrdered_uint64 d1.toList (a : Int) (b : Int)) fun y => (((b : Int) - 1) - ((pv : Int) - (a : Int)), (1 : Int), y) else ((pv : Int), hintN hint, d1.toList)) =
        (((if hint = .decreasing then b - 1 - (pv - a) else pv : Nat) : Int), hintN (if hint = .decreasing then Hint.increasing else hint), (if hint = .decreasing then reverseRange d1 a b else d1).toList) := by
      by_cases c : hint = .decreasing
      · rw [if_pos ((hint2 hint).2 c), if_pos c, if_pos c, if_pos c, bndE, rev_eq a b (by omega), Array.toArray_toList, show ((b : Int) - 1) - ((pv : Int) - (a : Int)) = ((b - 1 - (pv - a) : Nat) : Int) from by omega]; rfl
      · rw [if_neg (fun e => c ((hint2 hint).1 e)), if_neg c, if_neg c, if_neg c]
    rw [hY, bndE]
    generalize (if hint = .decreasing then b - 1 - (pv - a) else pv) = pv2
    generalize (if hint = .decreasing then Hint.increasing else hint) = hint3
    generalize (if hint = .decreasing then reverseRange d1 a b else d1) = d2
    simp only
    refine Eq.trans (congrArg (fun z => lp z _) (?_ : _ = (if (if (wb && wp && decide (hint3 = Hint.increasing)) = true then partialInsertionSort ltN d2 a b else (d2, false)).2 = true then Sum.inr (if (wb && wp && decide (hint3 = Hint.increasing)) = true then partialInsertionSort ltN d2 a b else (d2, false)).1.toList else tailT q (a : Int) (b : Int) (lim1 : Int) wb wp (pv2 : Int) (if (wb && wp && decide (hint3 = Hint.increasing)) = true then partialInsertionSort ltN d2 a b else (d2, false)).1.toList))) ?_
    · cases wb with
      | false => rfl
      | true =>
        cases wp with
        | false => rfl
        | true =>
          by_cases c : hint3 = .increasing
          · subst c
            rw [if_pos rfl, if_pos rfl, if_pos (show hintN Hint.increasing = 1 from rfl), bndE, pi_eq, Array.toArray_toList]
            rw [if_pos (show (true && true && decide (Hint.increasing = Hint.increasing)) = true from by decide)]
            generalize partialInsertionSort ltN d2 a b = r
            obtain ⟨r1, r2⟩ := r
            cases r2 <;> rfl
          · rw [if_pos rfl, if_pos rfl, if_neg (fun e => c ((hint1 hint3).1 e)), lpS_inl]
            rw [if_neg (show ¬ (true && true && decide (hint3 = Hint.increasing)) = true from by rw [decide_eq_false c]; decide)]
            rfl
    generalize (if (wb && wp && decide (hint3 = Hint.increasing)) = true then partialInsertionSort ltN d2 a b else (d2, false)) = r
    obtain ⟨d3, fin⟩ := r
    cases fin with
    | true => rfl
    | false =>
      simp only
      rw [if_neg (by decide), if_neg (by decide)]
      have hP : lp (tailP q (a : Int) (b : Int) (lim1 : Int) (pv2 : Int) d3.toList) (fun _ => default) = (match Sort.partition ltN d3 a b pv2 with
        | (mid, ap, d4) => if _h : a ≤ mid ∧ mid < b then (if mid - a < b - mid then pdq ltN (pdq ltN d4 a mid lim1 true true) (mid + 1) b lim1 (decide (mid - a ≥ (b - a) / 8)) ap else pdq ltN (pdq ltN d4 (mid + 1) b lim1 true true) a mid lim1 (decide (b - mid ≥ (b - a) / 8)) ap) else d4).toList := by
        unfold tailP
        rw [part_eq a b pv2 _ (by omega), Array.toArray_toList]
        have hg := partition_range a b pv2 d3 (by omega)
        generalize Sort.partition ltN d3 a b pv2 = r at hg ⊢
        obtain ⟨mid, ap, d4⟩ := r
        simp only at hg ⊢
        rw [dif_pos hg]
        simp only [bndE, pdqT, Int.toNat_natCast, Array.toArray_toList, show Int.toNat ((b : Int) - (a : Int)) = b - a from by omega, show (mid : Int) + 1 = ((mid + 1 : Nat) : Int) from by omega]
        by_cases c : mid - a < b - mid
        · rw [if_pos (by omega), if_pos c, ih _ _ _ _ _ _ (by omega) (by omega) hb, Array.toArray_toList, show decide ((mid : Int) - (a : Int) ≥ (((b - a) / 8 : Nat) : Int)) = decide (mid - a ≥ (b - a) / 8) from decide_eq_decide.2 (by omega)]
        · rw [if_neg (by omega), if_neg c, ih _ _ _ _ _ _ (by omega) (by omega) (by omega), Array.toArray_toList, show decide ((b : Int) - (mid : Int) ≥ (((b - a) / 8 : Nat) : Int)) = decide (b - mid ≥ (b - a) / 8) from decide_eq_decide.2 (by omega)]
      unfold tailT
      by_cases c5 : a > 0
      · rw [if_pos (by omega)]
        have e1 : ∀ i : Nat, d3[i]! = List.getD d3.toList i default := fun i => by rw [← ga, Array.toArray_toList]
        simp only [bndE, lessN, show (a : Int) - 1 = ((a - 1 : Nat) : Int) from by omega, Int.toNat_natCast, e1]
        by_cases c6 : ltN (List.getD d3.toList (a - 1) default) (List.getD d3.toList pv2 default) = true
        · rw [if_pos c6, if_neg (andB (np c6)), hP]
        · rw [if_neg c6, if_pos (andY c5 (pn c6)), eq_eq a b pv2 _ (by omega), Array.toArray_toList]
          have hg := partitionEqual_range a b pv2 d3 (by omega)
          generalize partitionEqual ltN d3 a b pv2 = r at hg ⊢
          obtain ⟨mid, d4⟩ := r
          simp only at hg ⊢
          rw [dif_pos hg, ih _ _ _ _ _ _ (by omega) (by omega) hb, Array.toArray_toList]
      · rw [if_neg (by omega), if_neg (andN c5), hP]
theorem pdq_body (l : List Nat) (p1 p2 p3 : Int) (h0 : 0 ≤ p1) (h1 : p1 ≤ p2) (h2 : p2 ≤ 4611686018427387904) (h3 : 0 ≤ p3) : slices_pdqsortOrdered_uint64 l p1 p2 p3 = pdqT l p1 p2 p3 := by
  obtain ⟨a, rfl⟩ := Int.eq_ofNat_of_zero_le h0
  obtain ⟨b, rfl⟩ := Int.eq_ofNat_of_zero_le (Int.le_trans h0 h1)
  obtain ⟨lim, rfl⟩ := Int.eq_ofNat_of_zero_le h3
  unfold slices_pdqsortOrdered_uint64 pdqT
  rw [pdq0 _ a b lim true true l (by omega) (by omega) (by omega)]
  simp only [Int.toNat_natCast]
theorem swo_ltN : SWO ltN where
  irrefl x := by simp [ltN]
  trans x y z h1 h2 := by simp only [ltN, decide_eq_true_eq] at *; omega
  ntrans x y z h1 h2 := by simp only [ltN, decide_eq_false_iff_not] at *; omega
theorem pdqT_sort (l : List Nat) (lim : Int) : pdqT l 0 ((List.length l : Nat) : Int) lim = l.mergeSort (fun x y => decide (x ≤ y)) := by
  unfold pdqT
  rw [Int.toNat_natCast, show Int.toNat 0 = 0 from rfl]
  obtain ⟨hP, hS⟩ := pdq_holds insertionSort_holds heapSort_holds partialInsertionSort_holds (partition_holds _) (partitionEqual_holds _) reverseRange_holds swo_ltN l.toArray 0 l.length (Int.toNat lim) true true (Nat.zero_le _) (Nat.le_refl _) (Or.inl rfl)
  have h := sorted_unique_holds swo_ltN (fun x y h1 h2 => by simp only [ltN, decide_eq_false_iff_not] at h1 h2; omega) l.toArray _ hP hS
  rw [h]
  congr 1
  funext x y
  unfold ltN
  by_cases h : x ≤ y
  · rw [decide_eq_true h, decide_eq_false (by omega)]; rfl
  · rw [decide_eq_false h, decide_eq_true (by omega)]; rfl
end Go.Proofs.Ytggnajpokhaaiaa
