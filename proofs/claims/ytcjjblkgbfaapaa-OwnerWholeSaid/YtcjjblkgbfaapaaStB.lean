/-
  The library's merge in place, told, is that function; it is called. Conditions: none beyond each law's own.
-/
import Derived.Test.YtcjjblkgbfaapaaSb
namespace Go.Proofs.Ytcjjblkgbfaapaa
set_option linter.unusedVariables false
set_option linter.unusedSimpArgs false
theorem bnS {α β : Type} (x : α) (f : α → β) : bnd x f = f x := rfl
theorem gdS (a q : List PairD) (p : PairD) : List.getD (a ++ p :: q) a.length default = p := by simp
theorem stS (a q : List PairD) (p y : PairD) : List.set (a ++ p :: q) a.length y = a ++ y :: q := by simp
theorem rot_eq (P X Y Q : List PairD) {a m b : Nat} (ha : a = P.length) (hm : m = a + X.length) (hb : b = m + Y.length) : rot (P ++ (X ++ (Y ++ Q))) a m b = P ++ (Y ++ (X ++ Q)) := by
  subst hb; subst hm; subst ha
  have e1 : List.take P.length (P ++ (X ++ (Y ++ Q))) = P := List.take_left
  have e2 : List.take (P.length + X.length) (P ++ (X ++ (Y ++ Q))) = P ++ X := by
    rw [← List.append_assoc, ← List.length_append]; exact List.take_left
  have e3 : List.take (P.length + X.length + Y.length) (P ++ (X ++ (Y ++ Q))) = P ++ (X ++ Y) := by
    have : P ++ (X ++ (Y ++ Q)) = (P ++ (X ++ Y)) ++ Q := by simp
    rw [this, show P.length + X.length + Y.length = (P ++ (X ++ Y)).length by simp; omega]; exact List.take_left
  have e4 : List.drop (P.length + X.length + Y.length) (P ++ (X ++ (Y ++ Q))) = Q := by
    have : P ++ (X ++ (Y ++ Q)) = (P ++ (X ++ Y)) ++ Q := by simp
    rw [this, show P.length + X.length + Y.length = (P ++ (X ++ Y)).length by simp; omega]; exact List.drop_left
  have e5 : List.drop (P.length + X.length) (P ++ (X ++ Y)) = Y := by
    rw [← List.append_assoc, ← List.length_append]; exact List.drop_left
  have e6 : List.drop P.length (P ++ X) = X := List.drop_left
  unfold rot
  rw [e1, e3, e5, e2, e6, e4]
theorem seg (l : List PairD) {a m b : Nat} (h1 : a ≤ m) (h2 : m ≤ b) (h3 : b ≤ l.length) : ∃ P X Y Q, l = P ++ (X ++ (Y ++ Q)) ∧ P.length = a ∧ X.length = m - a ∧ Y.length = b - m := by
  refine ⟨List.take a l, List.take (m - a) (List.drop a l), List.take (b - m) (List.drop m l), List.drop b l, ?_, ?_, ?_, ?_⟩
  · have e1 : List.take (b - m) (List.drop m l) ++ List.drop b l = List.drop m l := by
      have := List.take_append_drop (b - m) (List.drop m l)
      rw [List.drop_drop, show m + (b - m) = b by omega] at this
      exact this
    have e2 : List.take (m - a) (List.drop a l) ++ List.drop m l = List.drop a l := by
      have := List.take_append_drop (m - a) (List.drop a l)
      rw [List.drop_drop, show a + (m - a) = m by omega] at this
      exact this
    rw [e1, e2, List.take_append_drop]
  · rw [List.length_take]; omega
  · rw [List.length_take, List.length_drop]; omega
  · rw [List.length_take, List.length_drop]; omega
theorem swap0 (p1 p2 p3 : Int) : ∀ (X Z P Y Q : List PairD) (k q : Nat), X.length = Z.length → X.length < q → p1 + (k : Int) = (P.length : Int) → p2 + (k : Int) = ((P.length + X.length + Y.length : Nat) : Int) → p3 = ((k + X.length : Nat) : Int) →
    slices_swapRangeCmpFunc_api_Pair_L0 p1 p2 p3 q k (P ++ (X ++ (Y ++ (Z ++ Q)))) = P ++ (Z ++ (Y ++ (X ++ Q)))
  | _, _, _, _, _, _, 0, _, h, _, _, _ => by omega
  | [], [], P, Y, Q, k, q + 1, _, _, _, _, h5 => by
    rw [slices_swapRangeCmpFunc_api_Pair_L0, if_neg (by rw [h5]; simp)]
  | [], z :: Z, _, _, _, _, q + 1, h, _, _, _, _ => by simp at h
  | x :: X, [], _, _, _, _, q + 1, h, _, _, _, _ => by simp at h
  | x :: X, z :: Z, P, Y, Q, k, q + 1, h1, h2, h3, h4, h5 => by
    simp only [List.length_cons] at h1 h2 h4 h5
    rw [slices_swapRangeCmpFunc_api_Pair_L0, if_pos (by rw [h5]; omega)]
    simp only [bnS]
    rw [h3, h4, Int.toNat_natCast, Int.toNat_natCast]
    have g1 : P ++ (x :: X ++ (Y ++ (z :: Z ++ Q))) = (P ++ (x :: X ++ Y)) ++ z :: (Z ++ Q) := by simp
    have g2 : (P ++ (x :: X ++ Y)).length = P.length + (X.length + 1) + Y.length := by simp; omega
    have i1 : List.getD (P ++ (x :: X ++ (Y ++ (z :: Z ++ Q)))) (P.length + (X.length + 1) + Y.length) default = z := by rw [g1, ← g2]; exact gdS _ _ _
    have i2 : List.getD (P ++ (x :: X ++ (Y ++ (z :: Z ++ Q)))) P.length default = x := gdS P (X ++ (Y ++ (z :: Z ++ Q))) x
    have i3 : List.set (P ++ (x :: X ++ (Y ++ (z :: Z ++ Q)))) P.length z = (P ++ (z :: X ++ Y)) ++ z :: (Z ++ Q) := by
      rw [show P ++ (x :: X ++ (Y ++ (z :: Z ++ Q))) = P ++ x :: (X ++ (Y ++ (z :: Z ++ Q))) from rfl, stS]; simp
    have g3 : (P ++ (z :: X ++ Y)).length = P.length + (X.length + 1) + Y.length := by simp; omega
    rw [i1, i2, show (PairD.mk z.xKey z.xValue) = z from rfl, show (PairD.mk x.xKey x.xValue) = x from rfl, i3, ← g3, stS]
    have e : (P ++ (z :: X ++ Y)) ++ x :: (Z ++ Q) = (P ++ [z]) ++ (X ++ ((Y ++ [x]) ++ (Z ++ Q))) := by simp
    rw [e, swap0 p1 p2 p3 X Z (P ++ [z]) (Y ++ [x]) Q (k + 1) q (by omega) (by omega) (by simp; omega) (by simp; omega) (by omega)]
    simp
theorem swap_eq (P X Y Z Q : List PairD) (h : X.length = Z.length) {p1 p2 p3 : Int} (h1 : p1 = (P.length : Int)) (h2 : p2 = ((P.length + X.length + Y.length : Nat) : Int)) (h3 : p3 = (X.length : Int)) : slices_swapRangeCmpFunc_api_Pair (P ++ (X ++ (Y ++ (Z ++ Q)))) p1 p2 p3 = P ++ (Z ++ (Y ++ (X ++ Q))) := by
  unfold slices_swapRangeCmpFunc_api_Pair
  rw [bnS]
  exact swap0 p1 p2 p3 X Z P Y Q 0 _ h (by omega) (by omega) (by omega) (by omega)
theorem rot0 (m : Nat) : ∀ (q : Nat) (P X Y Q : List PairD), X.length + Y.length < q → 1 ≤ X.length → 1 ≤ Y.length → P.length + X.length = m →
    slices_swapRangeCmpFunc_api_Pair (slices_rotateCmpFunc_api_Pair_L0 (m : Int) q (X.length : Int) (Y.length : Int) (P ++ (X ++ (Y ++ Q)))).2 ((m : Int) - (slices_rotateCmpFunc_api_Pair_L0 (m : Int) q (X.length : Int) (Y.length : Int) (P ++ (X ++ (Y ++ Q)))).1) (m : Int) (slices_rotateCmpFunc_api_Pair_L0 (m : Int) q (X.length : Int) (Y.length : Int) (P ++ (X ++ (Y ++ Q)))).1 = P ++ (Y ++ (X ++ Q))
  | 0, _, _, _, _, h, _, _, _ => by omega
  | q + 1, P, X, Y, Q, h, hx, hy, hm => by
    by_cases c1 : X.length = Y.length
    · have e : slices_rotateCmpFunc_api_Pair_L0 (m : Int) (q + 1) (X.length : Int) (Y.length : Int) (P ++ (X ++ (Y ++ Q))) = ((X.length : Int), P ++ (X ++ (Y ++ Q))) := by
        rw [slices_rotateCmpFunc_api_Pair_L0, if_pos (by omega)]
      rw [e]
      exact swap_eq P X [] Y Q c1 (by omega) (by simp; omega) rfl
    · by_cases c2 : X.length > Y.length
      · obtain ⟨X1, X2, rfl, h1⟩ : ∃ X1 X2, X = X1 ++ X2 ∧ X1.length = Y.length := ⟨List.take Y.length X, List.drop Y.length X, (List.take_append_drop _ _).symm, by rw [List.length_take]; omega⟩
        rw [List.length_append] at h hx hm c1 c2
        have e : slices_rotateCmpFunc_api_Pair_L0 (m : Int) (q + 1) ((X1 ++ X2).length : Int) (Y.length : Int) (P ++ ((X1 ++ X2) ++ (Y ++ Q))) = slices_rotateCmpFunc_api_Pair_L0 (m : Int) q (X2.length : Int) (X1.length : Int) ((P ++ Y) ++ (X2 ++ (X1 ++ Q))) := by
          rw [slices_rotateCmpFunc_api_Pair_L0, if_neg (by rw [List.length_append]; omega), if_pos (by rw [List.length_append]; omega), bnS]
          rw [show P ++ ((X1 ++ X2) ++ (Y ++ Q)) = P ++ (X1 ++ (X2 ++ (Y ++ Q))) by simp, swap_eq P X1 X2 Y Q h1 (by rw [List.length_append]; omega) (by omega) (by omega)]
          rw [show (((X1 ++ X2).length : Nat) : Int) - (Y.length : Int) = (X2.length : Int) by rw [List.length_append]; omega, h1]
          simp
        rw [e, rot0 m q (P ++ Y) X2 X1 Q (by omega) (by omega) (by omega) (by rw [List.length_append]; omega)]
        simp
      · obtain ⟨Y1, Y2, rfl, h1⟩ : ∃ Y1 Y2, Y = Y1 ++ Y2 ∧ Y2.length = X.length := ⟨List.take (Y.length - X.length) Y, List.drop (Y.length - X.length) Y, (List.take_append_drop _ _).symm, by rw [List.length_drop]; omega⟩
        rw [List.length_append] at h hy c1 c2
        have e : slices_rotateCmpFunc_api_Pair_L0 (m : Int) (q + 1) (X.length : Int) ((Y1 ++ Y2).length : Int) (P ++ (X ++ ((Y1 ++ Y2) ++ Q))) = slices_rotateCmpFunc_api_Pair_L0 (m : Int) q (Y2.length : Int) (Y1.length : Int) (P ++ (Y2 ++ (Y1 ++ (X ++ Q)))) := by
          rw [slices_rotateCmpFunc_api_Pair_L0, if_neg (by rw [List.length_append]; omega), if_neg (by rw [List.length_append]; omega), bnS]
          rw [show P ++ (X ++ ((Y1 ++ Y2) ++ Q)) = P ++ (X ++ (Y1 ++ (Y2 ++ Q))) by simp, swap_eq P X Y1 Y2 Q h1.symm (by omega) (by rw [List.length_append]; omega) rfl]
          rw [show (((Y1 ++ Y2).length : Nat) : Int) - (X.length : Int) = (Y1.length : Int) by rw [List.length_append]; omega, h1]
        rw [e, rot0 m q P Y2 Y1 (X ++ Q) (by omega) (by omega) (by omega) (by omega)]
        simp
theorem rotate_eq (l : List PairD) {a m b : Nat} (h1 : a < m) (h2 : m < b) (h3 : b ≤ l.length) : slices_rotateCmpFunc_api_Pair l (a : Int) (m : Int) (b : Int) = rot l a m b := by
  obtain ⟨P, X, Y, Q, rfl, e1, e2, e3⟩ := seg l (Nat.le_of_lt h1) (Nat.le_of_lt h2) h3
  rw [rot_eq P X Y Q e1.symm (by omega) (by omega)]
  unfold slices_rotateCmpFunc_api_Pair
  simp only [bnS]
  have := rot0 m ((Int.toNat (((m : Int) - (a : Int)) + ((b : Int) - (m : Int)))) + 1) P X Y Q (by omega) (by omega) (by omega) (by omega)
  rw [show (X.length : Int) = (m : Int) - (a : Int) by omega, show (Y.length : Int) = (b : Int) - (m : Int) by omega] at this
  exact this
theorem up1 (i : Int) : ∀ (Y P Q : List PairD) (x : PairD) (q : Nat) (k : Int), Y.length < q → k = (P.length : Int) → i = ((P.length + Y.length + 1 : Nat) : Int) → slices_symMergeCmpFunc_api_Pair_L1 i q k (P ++ x :: (Y ++ Q)) = P ++ (Y ++ x :: Q)
  | _, _, _, _, 0, _, h, _, _ => by omega
  | [], P, Q, x, q + 1, k, _, hk, hi => by
    rw [slices_symMergeCmpFunc_api_Pair_L1, if_neg (by rw [hk, hi]; simp)]; rfl
  | y :: Y, P, Q, x, q + 1, k, h, hk, hi => by
    simp only [List.length_cons] at h hi
    rw [slices_symMergeCmpFunc_api_Pair_L1, if_pos (by omega)]
    simp only [bnS]
    rw [show Int.toNat (k + 1) = (P ++ [x]).length by simp; omega, show Int.toNat k = P.length by omega]
    have g1 : P ++ x :: (y :: Y ++ Q) = (P ++ [x]) ++ y :: (Y ++ Q) := by simp
    rw [show List.getD (P ++ x :: (y :: Y ++ Q)) (P ++ [x]).length default = y by rw [g1]; exact gdS _ _ _, gdS, show (PairD.mk y.xKey y.xValue) = y from rfl, show (PairD.mk x.xKey x.xValue) = x from rfl, stS]
    rw [show P ++ y :: (y :: Y ++ Q) = (P ++ [y]) ++ y :: (Y ++ Q) by simp, show (P ++ [x]).length = (P ++ [y]).length by simp, stS]
    rw [up1 i Y (P ++ [y]) Q x q (k + 1) (by omega) (by simp; omega) (by simp; omega)]
    simp
theorem up3 (i : Int) : ∀ (n : Nat) (X P Q : List PairD) (x : PairD) (q : Nat) (k : Int), X.length = n → X.length < q → i = (P.length : Int) → k = ((P.length + X.length : Nat) : Int) → slices_symMergeCmpFunc_api_Pair_L3 i q k (P ++ (X ++ x :: Q)) = P ++ x :: (X ++ Q)
  | _, _, _, _, _, 0, _, _, h, _, _ => by omega
  | 0, X, P, Q, x, q + 1, k, hn, _, hi, hk => by
    have e : X = [] := List.eq_nil_of_length_eq_zero hn
    subst e
    rw [slices_symMergeCmpFunc_api_Pair_L3, if_neg (by rw [hk, hi]; simp)]; rfl
  | n + 1, X, P, Q, x, q + 1, k, hn, h, hi, hk => by
    obtain ⟨X', y, rfl⟩ : ∃ X' y, X = X' ++ [y] := ⟨X.dropLast, X.getLast (fun e => by rw [e] at hn; cases hn), (List.dropLast_concat_getLast _).symm⟩
    rw [List.length_append, List.length_singleton] at hn h hk
    rw [slices_symMergeCmpFunc_api_Pair_L3, if_pos (by omega)]
    simp only [bnS]
    rw [show Int.toNat (k - 1) = (P ++ X').length by simp; omega, show Int.toNat k = ((P ++ X') ++ [y]).length by simp; omega]
    have g1 : P ++ ((X' ++ [y]) ++ x :: Q) = (P ++ X') ++ y :: (x :: Q) := by simp
    have g2 : P ++ ((X' ++ [y]) ++ x :: Q) = ((P ++ X') ++ [y]) ++ x :: Q := by simp
    rw [show List.getD (P ++ ((X' ++ [y]) ++ x :: Q)) (P ++ X').length default = y by rw [g1]; exact gdS _ _ _, show List.getD (P ++ ((X' ++ [y]) ++ x :: Q)) ((P ++ X') ++ [y]).length default = x by rw [g2]; exact gdS _ _ _]
    rw [show (PairD.mk y.xKey y.xValue) = y from rfl, show (PairD.mk x.xKey x.xValue) = x from rfl, g2, stS]
    rw [show ((P ++ X') ++ [y]) ++ y :: Q = (P ++ X') ++ y :: (y :: Q) by simp, stS]
    rw [show (P ++ X') ++ x :: (y :: Q) = P ++ (X' ++ x :: (y :: Q)) by simp, up3 i n X' P (y :: Q) x q (k - 1) (by omega) (by omega) hi (by omega)]
    simp
theorem ltP_t {x y : PairD} : owner_gatherOp_1 x y < 0 ↔ ltP x y = true := by unfold ltP; rw [decide_eq_true_eq]
theorem bs_le (P : Nat → Bool) : ∀ (f i j : Nat), i ≤ j → i ≤ bs P f i j ∧ bs P f i j ≤ j
  | 0, i, j, h => ⟨Nat.le_refl _, h⟩
  | f + 1, i, j, h => by
    unfold bs
    by_cases c : i < j
    · rw [if_pos c]
      split
      · have := bs_le P f ((i + j) / 2 + 1) j (by omega); omega
      · have := bs_le P f i ((i + j) / 2) (by omega); omega
    · rw [if_neg c]; omega
theorem atE (l : List PairD) (i : Nat) : List.getD l i default = at_ l i := rfl
theorem bs0 (l : List PairD) (a : Nat) (p3 : Int) : ∀ (q i j : Nat), j - i < q → slices_symMergeCmpFunc_api_Pair_L0 l (a : Int) p3 q (i : Int) (j : Int) = ((bs (fun h => ltP (at_ l h) (at_ l a)) q i j : Nat) : Int)
  | 0, _, _, h => by omega
  | q + 1, i, j, h => by
    rw [slices_symMergeCmpFunc_api_Pair_L0, bs]
    simp only [bnS, atE]
    rw [show Int.toNat ((i : Int) + (j : Int)) = i + j by omega, Int.toNat_natCast]
    by_cases c : i < j
    · rw [if_pos (by omega), if_pos c]
      by_cases t : ltP (at_ l ((i + j) / 2)) (at_ l a) = true
      · rw [if_pos (ltP_t.2 t), if_pos t, bs0 l a p3 q _ j (by omega)]
      · rw [if_neg (fun e => t (ltP_t.1 e)), if_neg t, bs0 l a p3 q i _ (by omega)]
    · rw [if_neg (by omega), if_neg c]
theorem bs2 (l : List PairD) (m : Nat) (p1 : Int) : ∀ (q i j : Nat), j - i < q → slices_symMergeCmpFunc_api_Pair_L2 l p1 (m : Int) q (i : Int) (j : Int) = ((bs (fun h => !ltP (at_ l m) (at_ l h)) q i j : Nat) : Int)
  | 0, _, _, h => by omega
  | q + 1, i, j, h => by
    rw [slices_symMergeCmpFunc_api_Pair_L2, bs]
    simp only [bnS, atE]
    rw [show Int.toNat ((i : Int) + (j : Int)) = i + j by omega, Int.toNat_natCast]
    by_cases c : i < j
    · rw [if_pos (by omega), if_pos c]
      by_cases t : ltP (at_ l m) (at_ l ((i + j) / 2)) = true
      · rw [if_pos (ltP_t.2 t), if_neg (by rw [t]; decide), bs2 l m p1 q i _ (by omega)]
      · rw [if_neg (fun e => t (ltP_t.1 e)), if_pos (by rw [Bool.eq_false_iff.2 t]; rfl), bs2 l m p1 q _ j (by omega)]
    · rw [if_neg (by omega), if_neg c]
theorem bs4 (l : List PairD) (a m b : Nat) (hb : m < b) : ∀ (q i j : Nat), j - i < q → j ≤ (a + b) / 2 → slices_symMergeCmpFunc_api_Pair_L4 l (a : Int) (m : Int) (b : Int) q (i : Int) (j : Int) = ((bs (fun c => !ltP (at_ l ((a + b) / 2 + m - 1 - c)) (at_ l c)) q i j : Nat) : Int)
  | 0, _, _, h, _ => by omega
  | q + 1, i, j, h, hj => by
    rw [slices_symMergeCmpFunc_api_Pair_L4, bs]
    simp only [bnS, atE]
    rw [show Int.toNat ((i : Int) + (j : Int)) = i + j by omega, show Int.toNat ((a : Int) + (b : Int)) = a + b by omega]
    by_cases c : i < j
    · rw [if_pos (by omega), if_pos c]
      rw [show Int.toNat ((((((a + b) / 2 : Nat) : Int) + (m : Int)) - 1) - (((i + j) / 2 : Nat) : Int)) = (a + b) / 2 + m - 1 - (i + j) / 2 by omega]
      by_cases t : ltP (at_ l ((a + b) / 2 + m - 1 - (i + j) / 2)) (at_ l ((i + j) / 2)) = true
      · rw [if_pos (ltP_t.2 t), if_neg (by rw [t]; decide), bs4 l a m b hb q i _ (by omega) (by omega)]
      · rw [if_neg (fun e => t (ltP_t.1 e)), if_pos (by rw [Bool.eq_false_iff.2 t]; rfl), bs4 l a m b hb q _ j (by omega) hj]
    · rw [if_neg (by omega), if_neg c]
theorem sym_more : ∀ (f : Nat) (l : List PairD) (a m b : Nat), a < m → m < b → b - a ≤ f → symF (f + 1) l a m b = symF f l a m b
  | 0, _, _, _, _, _, _, _ => by omega
  | f + 1, l, a, m, b, h1, h2, h3 => by
    rw [symF]
    conv => rhs; rw [symF]
    by_cases c1 : m - a = 1
    · rw [if_pos c1, if_pos c1]
    · rw [if_neg c1, if_neg c1]
      by_cases c2 : b - m = 1
      · rw [if_pos c2, if_pos c2]
      · rw [if_neg c2, if_neg c2]
        dsimp only
        generalize (if m > (a + b) / 2 then bs (fun c => !ltP (at_ l ((a + b) / 2 + m - 1 - c)) (at_ l c)) ((a + b) / 2 - ((a + b) / 2 + m - b) + 1) ((a + b) / 2 + m - b) ((a + b) / 2) else bs (fun c => !ltP (at_ l ((a + b) / 2 + m - 1 - c)) (at_ l c)) (m - a + 1) a m) = s
        have k1 : ∀ l1, (if a < s ∧ s < (a + b) / 2 then symF (f + 1) l1 a s ((a + b) / 2) else l1) = if a < s ∧ s < (a + b) / 2 then symF f l1 a s ((a + b) / 2) else l1 := fun l1 => by
          by_cases c : a < s ∧ s < (a + b) / 2
          · rw [if_pos c, if_pos c, sym_more f l1 a s _ c.1 c.2 (by omega)]
          · rw [if_neg c, if_neg c]
        rw [k1]
        split
        · next c => rw [sym_more f _ _ _ b c.1 c.2 (by omega)]
        · rfl
theorem sym_fuel (l : List PairD) (a m b : Nat) (h1 : a < m) (h2 : m < b) : ∀ f, b - a ≤ f → symF f l a m b = symF (b - a) l a m b
  | 0, h => by rw [show b - a = 0 by omega]
  | f + 1, h => by
    by_cases c : b - a = f + 1
    · rw [c]
    · rw [sym_more f l a m b h1 h2 (by omega), sym_fuel l a m b h1 h2 f (by omega)]
theorem sym_body (l : List PairD) (p1 p2 p3 : Int) (h : 0 ≤ p1 ∧ p1 < p2 ∧ p2 < p3 ∧ p3 ≤ ((l.length : Nat) : Int)) : slices_symMergeCmpFunc_api_Pair l p1 p2 p3 = symT l p1 p2 p3 := by
  obtain ⟨a, rfl⟩ := Int.eq_ofNat_of_zero_le h.1
  obtain ⟨m, rfl⟩ := Int.eq_ofNat_of_zero_le (Int.le_trans h.1 (Int.le_of_lt h.2.1))
  obtain ⟨b, rfl⟩ := Int.eq_ofNat_of_zero_le (Int.le_trans h.1 (Int.le_of_lt (Int.lt_trans h.2.1 h.2.2.1)))
  have h1 : a < m := by omega
  have h2 : m < b := by omega
  have h3 : b ≤ l.length := by omega
  unfold symT
  rw [Int.toNat_natCast, Int.toNat_natCast, Int.toNat_natCast, show Int.toNat ((b : Int) - (a : Int)) = b - a by omega, show b - a = (b - a - 1) + 1 by omega, symF]
  unfold slices_symMergeCmpFunc_api_Pair
  simp only [bnS]
  by_cases c1 : m - a = 1
  · rw [if_pos (by omega), if_pos c1]
    rw [bs0 l a (b : Int) _ m b (by omega), show Int.toNat ((b : Int) - (m : Int)) = b - m by omega]
    have hb := bs_le (fun h => ltP (at_ l h) (at_ l a)) (b - m + 1) m b (by omega)
    generalize bs (fun h => ltP (at_ l h) (at_ l a)) (b - m + 1) m b = i at hb
    obtain ⟨P, X, Y, Q, rfl, e1, e2, e3⟩ := seg l (a := a) (m := m) (b := i) (by omega) (by omega) (by omega)
    rw [rot_eq P X Y Q e1.symm (by omega) (by omega)]
    obtain ⟨x, rfl⟩ : ∃ x, X = [x] := List.length_eq_one_iff.1 (by omega)
    exact up1 (i : Int) Y P Q x _ (a : Int) (by omega) (by omega) (by omega)
  · rw [if_neg (by omega), if_neg c1]
    by_cases c2 : b - m = 1
    · rw [if_pos (by omega), if_pos c2]
      rw [bs2 l m (a : Int) _ a m (by omega), show Int.toNat ((m : Int) - (a : Int)) = m - a by omega]
      have hb := bs_le (fun h => !ltP (at_ l m) (at_ l h)) (m - a + 1) a m (by omega)
      generalize bs (fun h => !ltP (at_ l m) (at_ l h)) (m - a + 1) a m = i at hb
      obtain ⟨P, X, Y, Q, rfl, e1, e2, e3⟩ := seg l (a := i) (m := m) (b := b) (by omega) (by omega) (by omega)
      rw [rot_eq P X Y Q e1.symm (by omega) (by omega)]
      obtain ⟨x, rfl⟩ : ∃ x, Y = [x] := List.length_eq_one_iff.1 (by omega)
      exact up3 (i : Int) X.length X P Q x _ (m : Int) rfl (by omega) (by omega) (by omega)
    · rw [if_neg (by omega), if_neg c2]
      rw [show Int.toNat ((a : Int) + (b : Int)) = a + b by omega]
      have hd : (a + b) / 2 < b ∧ a < (a + b) / 2 := by omega
      generalize hmid : (a + b) / 2 = mid at hd
      have hL : ∀ q i j : Nat, j - i < q → j ≤ mid → slices_symMergeCmpFunc_api_Pair_L4 l (a : Int) (m : Int) (b : Int) q (i : Int) (j : Int) = ((bs (fun c => !ltP (at_ l (mid + m - 1 - c)) (at_ l c)) q i j : Nat) : Int) := fun q i j hq hj => by
        have := bs4 l a m b h2 q i j hq (by omega)
        rw [hmid] at this; exact this
      have hs : ∃ s : Nat, a ≤ s ∧ mid + m - b ≤ s ∧ s ≤ mid ∧ s ≤ m ∧ (if m > mid then bs (fun c => !ltP (at_ l (mid + m - 1 - c)) (at_ l c)) (mid - (mid + m - b) + 1) (mid + m - b) mid else bs (fun c => !ltP (at_ l (mid + m - 1 - c)) (at_ l c)) (m - a + 1) a m) = s ∧
          slices_symMergeCmpFunc_api_Pair_L4 l (a : Int) (m : Int) (b : Int) ((Int.toNat ((if (m : Int) > ((mid : Nat) : Int) then ((((mid : Nat) : Int) + (m : Int)) - (b : Int), ((mid : Nat) : Int)) else ((a : Int), (m : Int))).2 - (if (m : Int) > ((mid : Nat) : Int) then ((((mid : Nat) : Int) + (m : Int)) - (b : Int), ((mid : Nat) : Int)) else ((a : Int), (m : Int))).1)) + 1) (if (m : Int) > ((mid : Nat) : Int) then ((((mid : Nat) : Int) + (m : Int)) - (b : Int), ((mid : Nat) : Int)) else ((a : Int), (m : Int))).1 (if (m : Int) > ((mid : Nat) : Int) then ((((mid : Nat) : Int) + (m : Int)) - (b : Int), ((mid : Nat) : Int)) else ((a : Int), (m : Int))).2 = (s : Int) := by
        by_cases c : m > mid
        · have hb := bs_le (fun c => !ltP (at_ l (mid + m - 1 - c)) (at_ l c)) (mid - (mid + m - b) + 1) (mid + m - b) mid (by omega)
          refine ⟨bs (fun c => !ltP (at_ l (mid + m - 1 - c)) (at_ l c)) (mid - (mid + m - b) + 1) (mid + m - b) mid, by omega, hb.1, hb.2, by omega, by rw [if_pos c], ?_⟩
          rw [if_pos (by omega)]
          dsimp only
          rw [show (((mid : Nat) : Int) + (m : Int)) - (b : Int) = ((mid + m - b : Nat) : Int) by omega, show Int.toNat (((mid : Nat) : Int) - ((mid + m - b : Nat) : Int)) = mid - (mid + m - b) by omega]
          exact hL _ _ _ (by omega) (Nat.le_refl _)
        · have hb := bs_le (fun c => !ltP (at_ l (mid + m - 1 - c)) (at_ l c)) (m - a + 1) a m (by omega)
          refine ⟨bs (fun c => !ltP (at_ l (mid + m - 1 - c)) (at_ l c)) (m - a + 1) a m, hb.1, by omega, by omega, hb.2, by rw [if_neg c], ?_⟩
          rw [if_neg (by omega)]
          dsimp only
          rw [show Int.toNat ((m : Int) - (a : Int)) = m - a by omega]
          exact hL _ _ _ (by omega) (by omega)
      obtain ⟨s, s1, s2, s3, s4, s5, s6⟩ := hs
      rw [s5, s6]
      have hr : ∀ l1 : List PairD, a < s → s < mid → symT l1 (a : Int) (s : Int) ((mid : Nat) : Int) = symF (b - a - 1) l1 a s mid := fun l1 g1 g2 => by
        unfold symT
        rw [Int.toNat_natCast, Int.toNat_natCast, Int.toNat_natCast, show Int.toNat (((mid : Nat) : Int) - (a : Int)) = mid - a by omega, sym_fuel l1 a s mid g1 g2 (b - a - 1) (by omega)]
      have he : (((mid : Nat) : Int) + (m : Int)) - (s : Int) = ((mid + m - s : Nat) : Int) := by omega
      have hr2 : ∀ l1 : List PairD, mid < mid + m - s → mid + m - s < b → symT l1 ((mid : Nat) : Int) ((mid + m - s : Nat) : Int) (b : Int) = symF (b - a - 1) l1 mid (mid + m - s) b := fun l1 g1 g2 => by
        unfold symT
        rw [Int.toNat_natCast, Int.toNat_natCast, Int.toNat_natCast, show Int.toNat ((b : Int) - ((mid : Nat) : Int)) = b - mid by omega, sym_fuel l1 mid _ b g1 g2 (b - a - 1) (by omega)]
      rw [he]
      by_cases d1 : s < m
      · have q1 : (if (m : Int) < ((mid + m - s : Nat) : Int) then slices_rotateCmpFunc_api_Pair l (s : Int) (m : Int) ((mid + m - s : Nat) : Int) else l) = if s < m ∧ m < mid + m - s then rot l s m (mid + m - s) else l := by
          by_cases d2 : m < mid + m - s
          · rw [if_pos (by omega), if_pos ⟨d1, d2⟩, rotate_eq l d1 d2 (by omega)]
          · rw [if_neg (by omega), if_neg (fun q => d2 q.2)]
        rw [if_pos (by omega), q1]
        generalize (if s < m ∧ m < mid + m - s then rot l s m (mid + m - s) else l) = l1
        by_cases d3 : a < s
        · have q2 : (if (s : Int) < ((mid : Nat) : Int) then symT l1 (a : Int) (s : Int) ((mid : Nat) : Int) else l1) = if a < s ∧ s < mid then symF (b - a - 1) l1 a s mid else l1 := by
            by_cases d4 : s < mid
            · rw [if_pos (by omega), if_pos ⟨d3, d4⟩, hr l1 d3 d4]
            · rw [if_neg (by omega), if_neg (fun q => d4 q.2)]
          rw [if_pos (by omega), q2]
          by_cases d5 : mid + m - s < b
          · rw [if_pos (show ((mid + m - s : Nat) : Int) < (b : Int) by omega), if_pos (show mid < mid + m - s ∧ mid + m - s < b from ⟨by omega, d5⟩), hr2 _ (by omega) d5]
          · rw [if_neg (show ¬ ((mid + m - s : Nat) : Int) < (b : Int) by omega), if_neg (show ¬ (mid < mid + m - s ∧ mid + m - s < b) from fun q => d5 q.2)]
        · rw [if_neg (show ¬ (a : Int) < (s : Int) by omega), if_neg (show ¬ (a < s ∧ s < mid) from fun q => d3 q.1)]
          by_cases d5 : mid + m - s < b
          · rw [if_pos (show ((mid + m - s : Nat) : Int) < (b : Int) by omega), if_pos (show mid < mid + m - s ∧ mid + m - s < b from ⟨by omega, d5⟩), hr2 _ (by omega) d5]
          · rw [if_neg (show ¬ ((mid + m - s : Nat) : Int) < (b : Int) by omega), if_neg (show ¬ (mid < mid + m - s ∧ mid + m - s < b) from fun q => d5 q.2)]
      · rw [if_neg (show ¬ (s : Int) < (m : Int) by omega), if_neg (show ¬ (s < m ∧ m < mid + m - s) from fun q => d1 q.1), if_neg (show ¬ (mid < mid + m - s ∧ mid + m - s < b) from fun q => absurd q.1 (by omega))]
        by_cases d4 : s < mid
        · rw [if_pos (by omega), if_pos ⟨by omega, d4⟩, hr l (by omega) d4]
        · rw [if_neg (by omega), if_neg (fun q => d4 q.2)]
theorem symT_n (n : Nat) : ∀ (w : World) (D : Nat → Prop) (A0 : Option Addr) (n0 c0 : Nat) (l0 : List PairD) (p1 : Int) (p2 : Int) (p3 : Int) (r0 : List PairD) (H : Own w D w [row A0 n0 c0 (List.flatMap PairD.cells l0) 58 2]) (hn0 : n0 = l0.length) (hl0 : l0.length * 32 ≤ 211106232532992) (hh0 : 0 ≤ p1 ∧ p1 < p2 ∧ p2 < p3 ∧ p3 ≤ ((l0.length : Nat) : Int)) (hh_ : Int.toNat (p3 - p1) < n) (hr : symT l0 p1 p2 p3 = r0),
    Calls Try.prog 95 #[.slice A0 n0 c0, .int .i64 p1, .int .i64 p2, .int .i64 p3, .func (.func 62) #[] #[]] w (Ret fun v w' => v = .tuple #[] ∧ Own w D w' [row A0 n0 c0 (List.flatMap PairD.cells r0) 58 2] ∧ (r0.length = l0.length)) := by
  induction n with
  | zero => intro w D A0 n0 c0 l0 p1 p2 p3 r0 H hn0 hl0 hh0 hh_; omega
  | succ n ih =>
    intro w D A0 n0 c0 l0 p1 p2 p3 r0 H hn0 hl0 hh0 hh_ hr
    exact slices_symMergeCmpFunc_api_Pair_ok w D A0 n0 c0 l0 p1 p2 p3 r0 H hn0 hl0 hh0 ((sym_body l0 p1 p2 p3 hh0).trans hr) _ rfl
      (fun w D A0 n0 c0 l0 p1 p2 p3 r0 H hn0 hl0 hh0 hs hr => ih w D A0 n0 c0 l0 p1 p2 p3 r0 H hn0 hl0 hh0 (by omega) hr)
theorem symT_ok (w : World) (D : Nat → Prop) (A0 : Option Addr) (n0 c0 : Nat) (l0 : List PairD) (p1 : Int) (p2 : Int) (p3 : Int) (r0 : List PairD) (H : Own w D w [row A0 n0 c0 (List.flatMap PairD.cells l0) 58 2]) (hn0 : n0 = l0.length) (hl0 : l0.length * 32 ≤ 211106232532992) (hh0 : 0 ≤ p1 ∧ p1 < p2 ∧ p2 < p3 ∧ p3 ≤ ((l0.length : Nat) : Int)) (hr : symT l0 p1 p2 p3 = r0) :
    Calls Try.prog 95 #[.slice A0 n0 c0, .int .i64 p1, .int .i64 p2, .int .i64 p3, .func (.func 62) #[] #[]] w (Ret fun v w' => v = .tuple #[] ∧ Own w D w' [row A0 n0 c0 (List.flatMap PairD.cells r0) 58 2] ∧ (r0.length = l0.length)) :=
  symT_n _ w D A0 n0 c0 l0 p1 p2 p3 r0 H hn0 hl0 hh0 (Nat.lt_succ_self _) hr
end Go.Proofs.Ytcjjblkgbfaapaa
