/-
  The library's stable sort, told, is the stable sort. Conditions: none beyond each law's own.
-/
import Derived.Test.YtcjjblkgbfaapaaStC
namespace Go.Proofs.Ytcjjblkgbfaapaa
set_option linter.unusedVariables false
set_option linter.unusedSimpArgs false
theorem ins1 : ∀ (n : Nat) (P W R : List PairD) (x : PairD) (q : Nat) (p1 z : Int), W.length = n → p1 = (P.length : Int) → z = ((P.length + W.length : Nat) : Int) → W.length < q → Srt ltP W →
    ∃ W', slices_insertionSortCmpFunc_api_Pair_L1 p1 q z (P ++ (W ++ x :: R)) = P ++ (W' ++ R) ∧ Fil ltP (W ++ [x]) W' ∧ Srt ltP W' ∧ W'.length = W.length + 1
  | _, _, _, _, _, 0, _, _, _, _, _, h, _ => by omega
  | 0, P, W, R, x, q + 1, p1, z, hn, hp, hz, h, hs => by
    have e : W = [] := List.eq_nil_of_length_eq_zero hn
    subst e
    rw [slices_insertionSortCmpFunc_api_Pair_L1, if_neg (by rw [hz, hp]; simp)]
    exact ⟨[x], rfl, Fil.refl _, List.pairwise_singleton _ _, rfl⟩
  | n + 1, P, W, R, x, q + 1, p1, z, hn, hp, hz, h, hs => by
    obtain ⟨V, y, rfl⟩ : ∃ V y, W = V ++ [y] := ⟨W.dropLast, W.getLast (fun e => by rw [e] at hn; cases hn), (List.dropLast_concat_getLast _).symm⟩
    rw [List.length_append, List.length_singleton] at hn h hz
    obtain ⟨s1, s2, s3⟩ := srtS_app.1 hs
    rw [slices_insertionSortCmpFunc_api_Pair_L1, if_pos (by omega)]
    simp only [bnS]
    rw [show Int.toNat (z - 1) = (P ++ V).length by simp; omega, show Int.toNat z = ((P ++ V) ++ [y]).length by simp; omega]
    have g1 : P ++ ((V ++ [y]) ++ x :: R) = (P ++ V) ++ y :: (x :: R) := by simp
    have g2 : P ++ ((V ++ [y]) ++ x :: R) = ((P ++ V) ++ [y]) ++ x :: R := by simp
    rw [show List.getD (P ++ ((V ++ [y]) ++ x :: R)) (P ++ V).length default = y by rw [g1]; exact gdS _ _ _, show List.getD (P ++ ((V ++ [y]) ++ x :: R)) ((P ++ V) ++ [y]).length default = x by rw [g2]; exact gdS _ _ _]
    rw [show (PairD.mk y.xKey y.xValue) = y from rfl, show (PairD.mk x.xKey x.xValue) = x from rfl]
    by_cases c : owner_gatherOp_1 x y < 0
    · have hlt := ltP_t.1 c
      rw [if_pos c, g2, stS, show ((P ++ V) ++ [y]) ++ y :: R = (P ++ V) ++ y :: (y :: R) by simp, stS, show (P ++ V) ++ x :: (y :: R) = P ++ (V ++ x :: (y :: R)) by simp]
      obtain ⟨W', w1, w2, w3, w4⟩ := ins1 n P V (y :: R) x q p1 (z - 1) (by omega) hp (by omega) (by omega) s1
      refine ⟨W' ++ [y], by rw [w1]; simp, ?_, srtS_app.2 ⟨w3, List.pairwise_singleton _ _, fun u hu v hv => ?_⟩, by simp; omega⟩
      · have h1 : Fil ltP ([y] ++ [x]) ([x] ++ [y]) := Fil.swap ordP fun u hu v hv => by rw [List.mem_singleton.1 hu, List.mem_singleton.1 hv]; exact hlt
        have h2 := (Fil.refl (lt := ltP) V).app h1
        have h3 := w2.app (Fil.refl (lt := ltP) [y])
        refine Fil.trans ?_ h3
        simpa using h2
      · rw [List.mem_singleton.1 hv]
        rcases List.mem_append.1 (w2.mem ordP hu) with e | e
        · exact s3 u e y (List.mem_singleton.2 rfl)
        · rw [List.mem_singleton.1 e]; exact ordP.as hlt
    · have hlt : ltP x y = false := Bool.eq_false_iff.2 fun e => c (ltP_t.2 e)
      rw [if_neg c]
      refine ⟨(V ++ [y]) ++ [x], by simp, Fil.refl _, srtS_app.2 ⟨hs, List.pairwise_singleton _ _, fun u hu v hv => ?_⟩, by simp⟩
      rw [List.mem_singleton.1 hv]
      rcases List.mem_append.1 hu with e | e
      · exact ordP.nt _ _ _ hlt (s3 u e y (List.mem_singleton.2 rfl))
      · rw [List.mem_singleton.1 e]; exact hlt
theorem ins0 (p1 p2 : Int) (P Q : List PairD) (hp : p1 = (P.length : Int)) : ∀ (M W : List PairD) (q : Nat) (z : Int), z = ((P.length + W.length : Nat) : Int) → p2 = ((P.length + W.length + M.length : Nat) : Int) → M.length < q → 1 ≤ W.length → Srt ltP W →
    ∃ Z, slices_insertionSortCmpFunc_api_Pair_L0 p1 p2 q z (P ++ (W ++ (M ++ Q))) = P ++ (Z ++ Q) ∧ Fil ltP (W ++ M) Z ∧ Srt ltP Z ∧ Z.length = W.length + M.length
  | _, _, 0, _, _, _, h, _, _ => by omega
  | [], W, q + 1, z, hz, h2, h, hw, hs => by
    rw [slices_insertionSortCmpFunc_api_Pair_L0, if_neg (by rw [hz, h2]; simp)]
    exact ⟨W, rfl, by rw [List.append_nil]; exact Fil.refl _, hs, rfl⟩
  | x :: M, W, q + 1, z, hz, h2, h, hw, hs => by
    simp only [List.length_cons] at h2 h
    rw [slices_insertionSortCmpFunc_api_Pair_L0, if_pos (by omega)]
    simp only [bnS]
    obtain ⟨W', w1, w2, w3, w4⟩ := ins1 W.length P W (M ++ Q) x ((Int.toNat (z - p1)) + 1) p1 z rfl hp hz (by omega) hs
    rw [show P ++ (W ++ (x :: M ++ Q)) = P ++ (W ++ x :: (M ++ Q)) from rfl, w1]
    obtain ⟨Z, z1, z2, z3, z4⟩ := ins0 p1 p2 P Q hp M W' q (z + 1) (by omega) (by omega) (by omega) (by omega) w3
    refine ⟨Z, z1, ?_, z3, by simp; omega⟩
    refine Fil.trans ?_ z2
    have := w2.app (Fil.refl (lt := ltP) M)
    simpa using this
theorem ins_ok (P M Q : List PairD) {p1 p2 : Int} (h1 : p1 = (P.length : Int)) (h2 : p2 = ((P.length + M.length : Nat) : Int)) : ∃ Z, slices_insertionSortCmpFunc_api_Pair (P ++ (M ++ Q)) p1 p2 = P ++ (Z ++ Q) ∧ Fil ltP M Z ∧ Srt ltP Z ∧ Z.length = M.length := by
  unfold slices_insertionSortCmpFunc_api_Pair
  rw [bnS]
  cases M with
  | nil =>
    refine ⟨[], ?_, Fil.refl _, List.Pairwise.nil, rfl⟩
    rw [slices_insertionSortCmpFunc_api_Pair_L0, if_neg (by rw [h1, h2]; simp; omega)]
  | cons x M =>
    simp only [List.length_cons] at h2
    obtain ⟨Z, z1, z2, z3, z4⟩ := ins0 p1 p2 P Q h1 M [x] ((Int.toNat (p2 - (p1 + 1))) + 1) (p1 + 1) (by simp; omega) (by simp; omega) (by omega) (Nat.le_refl _) (List.pairwise_singleton _ _)
    exact ⟨Z, z1, z2, z3, by simp at z4 ⊢; omega⟩
def Bs (B k : Nat) (l : List PairD) : Prop := ∀ i j, i ≤ j → j < k → i / B = j / B → ltP (at_ l j) (at_ l i) = false
theorem div_lt_of {i a B : Nat} (hB : 1 ≤ B) (h : i < a * B) : i / B < a := Nat.div_lt_of_lt_mul (by rw [Nat.mul_comm]; exact h)
theorem le_div_of {i a B : Nat} (hB : 1 ≤ B) (h : a * B ≤ i) : a ≤ i / B := (Nat.le_div_iff_mul_le (by omega)).2 h
theorem Bs.step {B a k : Nat} {P Z Q : List PairD} (hB : 1 ≤ B) (hP : P.length = a * B) (hZ : Z.length ≤ B) (hk : k ≤ P.length + Z.length) (h : Bs B P.length P) (hs : Srt ltP Z) : Bs B k (P ++ (Z ++ Q)) := fun i j h1 h2 h3 => by
  by_cases c : j < P.length
  · rw [at_l c, at_l (by omega)]; exact h i j h1 c h3
  · have hj := le_div_of (i := j) (a := a) hB (by omega)
    have hi : P.length ≤ i := by
      apply Classical.byContradiction
      intro q
      have := div_lt_of (i := i) (a := a) hB (by omega)
      omega
    rw [at_mid hi (by omega), at_mid (by omega) (by omega)]
    exact srt_ix hs (by omega) (by omega)
theorem Bs.left {B k : Nat} {P R : List PairD} (h : Bs B k (P ++ R)) (hk : P.length ≤ k) : Bs B P.length P := fun i j h1 h2 h3 => by
  have := h i j h1 (by omega) h3
  rw [at_l h2, at_l (by omega)] at this
  exact this
theorem stab0 (n : Nat) (p1 : Int) (hp : p1 = (n : Int)) (l0 : List PairD) : ∀ (q a : Nat) (l : List PairD), l.length = n → a * 20 ≤ n → n + 1 - (a * 20 + 20) < q → Fil ltP l0 l → Bs 20 (a * 20) l →
    ∃ a' l', slices_stableCmpFunc_api_Pair_L0 p1 q (a * 20) (a * 20 + 20) l = (a' * 20, l') ∧ l'.length = n ∧ a' * 20 ≤ n ∧ n < a' * 20 + 20 ∧ Fil ltP l0 l' ∧ Bs 20 (a' * 20) l'
  | 0, _, _, _, _, h, _, _ => by omega
  | q + 1, a, l, hl, ha, hq, hf, hb => by
    rw [slices_stableCmpFunc_api_Pair_L0]
    by_cases c : ((a * 20 + 20 : Nat) : Int) ≤ p1
    · rw [if_pos c, bnS]
      obtain ⟨P, M, Y, Q, rfl, e1, e2, e3⟩ := seg l (a := a * 20) (m := a * 20 + 20) (b := n) (by omega) (by omega) (by omega)
      obtain ⟨Z, z1, z2, z3, z4⟩ := ins_ok P M (Y ++ Q) (p1 := ((a * 20 : Nat) : Int)) (p2 := ((a * 20 + 20 : Nat) : Int)) (by omega) (by omega)
      rw [z1]
      have hb2 := hb.left (by omega)
      obtain ⟨a', l', k1, k2⟩ := stab0 n p1 hp l0 q (a + 1) (P ++ (Z ++ (Y ++ Q))) (by rw [← hl]; simp; omega) (by omega) (by omega) (hf.trans ((Fil.refl P).app (z2.app (Fil.refl _)))) (Bs.step (a := a) (by decide) e1 (by omega) (by omega) hb2 z3)
      exact ⟨a', l', by rw [← k1, show (a + 1) * 20 = a * 20 + 20 by omega], k2⟩
    · rw [if_neg c]
      exact ⟨a, l, rfl, hl, ha, by omega, hf, hb⟩
theorem merge_step {B a n : Nat} {l : List PairD} (hB : 1 ≤ B) (hl : l.length = n) {e : Nat} (h1 : a * (2 * B) + B < e) (h2 : e ≤ a * (2 * B) + 2 * B) (h3 : e ≤ n) (hL : Bs (2 * B) (a * (2 * B)) l) (hR : ∀ i j, a * (2 * B) ≤ i → i ≤ j → j < n → i / B = j / B → ltP (at_ l j) (at_ l i) = false) :
    Fil ltP l (symT l ((a * (2 * B) : Nat) : Int) ((a * (2 * B) + B : Nat) : Int) (e : Int)) ∧ (symT l ((a * (2 * B) : Nat) : Int) ((a * (2 * B) + B : Nat) : Int) (e : Int)).length = n ∧ Bs (2 * B) e (symT l ((a * (2 * B) : Nat) : Int) ((a * (2 * B) + B : Nat) : Int) (e : Int)) ∧ (∀ i j, e ≤ i → i ≤ j → j < n → i / B = j / B → ltP (at_ (symT l ((a * (2 * B) : Nat) : Int) ((a * (2 * B) + B : Nat) : Int) (e : Int)) j) (at_ (symT l ((a * (2 * B) : Nat) : Int) ((a * (2 * B) + B : Nat) : Int) (e : Int)) i) = false) := by
  obtain ⟨s, hs⟩ : ∃ s, a * (2 * B) = s := ⟨_, rfl⟩
  have hs2 : s = (2 * a) * B := by rw [← hs]; simp [Nat.mul_comm, Nat.mul_left_comm]
  rw [hs] at h1 h2 hL hR ⊢
  obtain ⟨P, X, Y, Q, rfl, e1, e2, e3⟩ := seg l (a := s) (m := s + B) (b := e) (by omega) (by omega) (by omega)
  have e2' : X.length = B := by omega
  have e3' : Y.length ≤ B := by omega
  have blk : ∀ (u : Nat) (i : Nat), (2 * a + u) * B ≤ i → i < (2 * a + u + 1) * B → i / B = 2 * a + u := fun u i g1 g2 => by
    have := le_div_of hB g1
    have := div_lt_of hB g2
    omega
  have hu0 : (2 * a + 0) * B = s := by rw [hs2]; simp
  have hu1 : (2 * a + 1) * B = s + B := by rw [hs2, Nat.add_mul, Nat.one_mul]
  have hu2 : (2 * a + 1 + 1) * B = s + B + B := by rw [hs2, Nat.add_mul, Nat.add_mul, Nat.one_mul]
  have sX : Srt ltP X := ix_srt fun i j g1 g2 => by
    have hk := hR (s + i) (s + j) (by omega) (by omega) (by simp at hl; omega) (by
      rw [blk 0 (s + i) (by omega) (by simp only [Nat.add_zero] at hu0 ⊢; omega), blk 0 (s + j) (by omega) (by simp only [Nat.add_zero] at hu0 ⊢; omega)])
    rw [at_mid (by omega) (by omega), at_mid (by omega) (by omega), e1, Nat.add_sub_cancel_left, Nat.add_sub_cancel_left] at hk
    exact hk
  have sY : Srt ltP Y := ix_srt fun i j g1 g2 => by
    have hk := hR (s + B + i) (s + B + j) (by omega) (by omega) (by simp at hl; omega) (by
      rw [blk 1 (s + B + i) (by omega) (by omega), blk 1 (s + B + j) (by omega) (by omega)])
    have q0 : (P ++ X).length = s + B := by rw [List.length_append]; omega
    rw [← List.append_assoc, at_mid (by omega) (by omega), at_mid (by omega) (by omega), q0, Nat.add_sub_cancel_left, Nat.add_sub_cancel_left] at hk
    exact hk
  obtain ⟨Z, z1, z2, z3, z4⟩ := sym_ok (e - s) P X Y Q (by omega) (by omega) (by omega) sX sY
  have hT : symT (P ++ (X ++ (Y ++ Q))) (s : Int) ((s + B : Nat) : Int) (e : Int) = P ++ (Z ++ Q) := by
    unfold symT
    rw [Int.toNat_natCast, Int.toNat_natCast, Int.toNat_natCast, show Int.toNat ((e : Int) - (s : Int)) = e - s by omega, ← z1]
    congr 1 <;> omega
  rw [hT]
  have hPn : P.length = a * (2 * B) := by omega
  refine ⟨?_, by rw [← hl]; simp; omega, ?_, ?_⟩
  · have := (Fil.refl (lt := ltP) P).app (z2.app (Fil.refl (lt := ltP) Q))
    simpa using this
  · exact Bs.step (a := a) (by omega) hPn (by omega) (by omega) (Bs.left hL (by omega)) z3
  · intro i j g1 g2 g3 g4
    have hk := hR i j (by omega) g2 g3 g4
    have t1 : at_ (P ++ (Z ++ Q)) i = at_ Q (i - (P ++ Z).length) := by rw [← List.append_assoc, at_r (by rw [List.length_append]; omega)]
    have t2 : at_ (P ++ (Z ++ Q)) j = at_ Q (j - (P ++ Z).length) := by rw [← List.append_assoc, at_r (by rw [List.length_append]; omega)]
    have t3 : at_ (P ++ (X ++ (Y ++ Q))) i = at_ Q (i - (P ++ (X ++ Y)).length) := by rw [show P ++ (X ++ (Y ++ Q)) = (P ++ (X ++ Y)) ++ Q by simp, at_r (by simp; omega)]
    have t4 : at_ (P ++ (X ++ (Y ++ Q))) j = at_ Q (j - (P ++ (X ++ Y)).length) := by rw [show P ++ (X ++ (Y ++ Q)) = (P ++ (X ++ Y)) ++ Q by simp, at_r (by simp; omega)]
    have t5 : (P ++ Z).length = (P ++ (X ++ Y)).length := by simp; omega
    rw [t3, t4] at hk
    rw [t1, t2, t5]; exact hk
theorem stab2 (n B : Nat) (hB : 1 ≤ B) (p1 : Int) (hp : p1 = (n : Int)) (l0 : List PairD) : ∀ (q a : Nat) (l : List PairD), l.length = n → a * (2 * B) ≤ n → n + 1 - (a * (2 * B) + 2 * B) < q → Fil ltP l0 l → Bs (2 * B) (a * (2 * B)) l → (∀ i j, a * (2 * B) ≤ i → i ≤ j → j < n → i / B = j / B → ltP (at_ l j) (at_ l i) = false) →
    ∃ a' l', slices_stableCmpFunc_api_Pair_L2 p1 B q (a * (2 * B)) (a * (2 * B) + 2 * B) l = (a' * (2 * B), l') ∧ l'.length = n ∧ a' * (2 * B) ≤ n ∧ n < a' * (2 * B) + 2 * B ∧ Fil ltP l0 l' ∧ Bs (2 * B) (a' * (2 * B)) l' ∧ (∀ i j, a' * (2 * B) ≤ i → i ≤ j → j < n → i / B = j / B → ltP (at_ l' j) (at_ l' i) = false)
  | 0, _, _, _, _, h, _, _, _ => by omega
  | q + 1, a, l, hl, ha, hq, hf, hb, hr => by
    rw [slices_stableCmpFunc_api_Pair_L2]
    by_cases c : ((a * (2 * B) + 2 * B : Nat) : Int) ≤ p1
    · rw [if_pos c, bnS]
      obtain ⟨m1, m2, m3, m4⟩ := merge_step (a := a) (e := a * (2 * B) + 2 * B) hB hl (by omega) (Nat.le_refl _) (by omega) hb hr
      have e : (a + 1) * (2 * B) = a * (2 * B) + 2 * B := by rw [Nat.add_mul, Nat.one_mul]
      generalize symT l ((a * (2 * B) : Nat) : Int) ((a * (2 * B) + B : Nat) : Int) ((a * (2 * B) + 2 * B : Nat) : Int) = l2 at m1 m2 m3 m4 ⊢
      rw [← e] at m3 m4
      obtain ⟨a', l', k1, k2⟩ := stab2 n B hB p1 hp l0 q (a + 1) l2 m2 (by omega) (by omega) (hf.trans m1) m3 m4
      refine ⟨a', l', ?_, k2⟩
      rw [← k1, e]
    · rw [if_neg c]
      exact ⟨a, l, rfl, hl, ha, by omega, hf, hb, hr⟩
theorem stab1 (n : Nat) (p1 : Int) (hp : p1 = (n : Int)) (l0 : List PairD) : ∀ (q B : Nat) (l : List PairD), 1 ≤ B → l.length = n → n - B < q → Fil ltP l0 l → Bs B n l →
    Fil ltP l0 (slices_stableCmpFunc_api_Pair_L1 p1 q B l) ∧ Srt ltP (slices_stableCmpFunc_api_Pair_L1 p1 q B l)
  | 0, _, _, _, _, h, _, _ => by omega
  | q + 1, B, l, hB, hl, hq, hf, hb => by
    rw [slices_stableCmpFunc_api_Pair_L1]
    by_cases c : ((B : Nat) : Int) < p1
    · rw [if_pos c, bnS]
      obtain ⟨a', l', k1, k2, k3, k4, k5, k6, k7⟩ := stab2 n B hB p1 hp l0 ((Int.toNat (p1 + 1 - (2 * B))) + 1) 0 l hl (by omega) (by omega) hf (fun i j h1 h2 _ => by omega) (fun i j _ h2 h3 h4 => hb i j h2 h3 h4)
      rw [Nat.zero_mul, Nat.zero_add] at k1
      rw [k1]
      dsimp only
      by_cases c2 : ((a' * (2 * B) + B : Nat) : Int) < p1
      · rw [if_pos c2, bnS, hp]
        obtain ⟨m1, m2, m3, m4⟩ := merge_step (a := a') (e := n) hB k2 (by omega) (by omega) (Nat.le_refl _) k6 k7
        rw [← hp, Nat.mul_comm B 2]
        exact stab1 n p1 hp l0 q (2 * B) _ (by omega) (by rw [hp]; exact m2) (by omega) (k5.trans (by rw [hp]; exact m1)) (by rw [hp]; exact m3)
      · rw [if_neg c2, Nat.mul_comm B 2]
        refine stab1 n p1 hp l0 q (2 * B) _ (by omega) k2 (by omega) k5 ?_
        intro i j h1 h2 h3
        by_cases c3 : j < a' * (2 * B)
        · exact k6 i j h1 c3 h3
        · have hj := le_div_of (i := j) (a := a') (B := 2 * B) (by omega) (by omega)
          have hi : a' * (2 * B) ≤ i := by
            apply Classical.byContradiction
            intro w
            have := div_lt_of (i := i) (a := a') (B := 2 * B) (by omega) (by omega)
            omega
          have hs2 : a' * (2 * B) = (2 * a') * B := by simp [Nat.mul_comm, Nat.mul_left_comm]
          have hB1 : (2 * a' + 1) * B = (2 * a') * B + B := by rw [Nat.add_mul, Nat.one_mul]
          refine k7 i j hi h1 h2 ?_
          have := le_div_of (i := i) (a := 2 * a') hB (by omega)
          have := div_lt_of (i := i) (a := 2 * a' + 1) hB (by omega)
          have := le_div_of (i := j) (a := 2 * a') hB (by omega)
          have := div_lt_of (i := j) (a := 2 * a' + 1) hB (by omega)
          omega
    · rw [if_neg c]
      refine ⟨hf, ix_srt fun i j h1 h2 => hb i j h1 (by omega) ?_⟩
      rw [Nat.div_eq_of_lt (by omega), Nat.div_eq_of_lt (by omega)]
theorem stable_ok (l : List PairD) : Fil ltP l (slices_SortStableFunc_api_Pair_api_Pair l) ∧ Srt ltP (slices_SortStableFunc_api_Pair_api_Pair l) := by
  unfold slices_SortStableFunc_api_Pair_api_Pair slices_stableCmpFunc_api_Pair
  simp only [bnS]
  obtain ⟨a, l1, k1, k2, k3, k4, k5, k6⟩ := stab0 l.length ((l.length : Nat) : Int) rfl l ((Int.toNat (((l.length : Nat) : Int) + 1 - 20)) + 1) 0 l rfl (by omega) (by omega) (Fil.refl l) (fun i j h1 h2 _ => by omega)
  rw [Nat.zero_mul, Nat.zero_add] at k1
  rw [k1]
  dsimp only
  obtain ⟨P, M, rfl, e1⟩ := split_len (l := l1) (k := a * 20) (by omega)
  rw [List.length_append] at k2
  obtain ⟨Z, z1, z2, z3, z4⟩ := ins_ok P M [] (p1 := ((a * 20 : Nat) : Int)) (p2 := ((l.length : Nat) : Int)) (by omega) (by omega)
  rw [List.append_nil] at z1
  rw [z1]
  refine stab1 l.length _ rfl l _ 20 _ (by decide) (by simp; omega) (by omega) (k5.trans ?_) (Bs.step (a := a) (by decide) e1 (by omega) (by omega) (k6.left (by omega)) z3)
  rw [List.append_nil]
  exact (Fil.refl P).app z2
end Go.Proofs.Ytcjjblkgbfaapaa
