/-
  The library's stable sort, told, is sorted, and keeps the order of what is alike. Conditions: none beyond each law's own.
-/
import Derived.Test.YtcjjblkgbfaapaaSc
namespace Go.Proofs.Ytcjjblkgbfaapaa
set_option linter.unusedVariables false
set_option linter.unusedSimpArgs false
theorem cmpS_lt : ∀ (a b : List UInt8), Lib.compareBytes a b < 0 ↔ a < b
  | [], [] => by simp [Lib.compareBytes]
  | [], _ :: _ => by simp [Lib.compareBytes]
  | _ :: _, [] => by simp [Lib.compareBytes]
  | x :: a, y :: b => by
    unfold Lib.compareBytes
    rw [List.cons_lt_cons_iff]
    by_cases h1 : x < y
    · simp [h1]
    · by_cases h2 : y < x
      · have : x ≠ y := by intro e; rw [e] at h2; exact absurd h2 (by simp)
        simp [h1, h2, this]
      · have e : x = y := by
          apply UInt8.le_antisymm
          · exact UInt8.not_lt.1 h2
          · exact UInt8.not_lt.1 h1
        subst e
        simp [cmpS_lt a b]
theorem ltP_iff {x y : PairD} : ltP x y = true ↔ x.xKey < y.xKey := by
  rw [← ltP_t, ← cmpS_lt]; exact Iff.rfl
theorem ltP_f {x y : PairD} : ltP x y = false ↔ y.xKey ≤ x.xKey := by
  rw [← Bool.not_eq_true, ltP_iff]; exact List.not_lt
theorem ordP : Ord ltP where
  irr x := ltP_f.2 (List.le_refl _)
  tr x y z h1 h2 := ltP_iff.2 (List.lt_trans (ltP_iff.1 h1) (ltP_iff.1 h2))
  nt x y z h1 h2 := ltP_f.2 (List.le_trans (ltP_f.1 h2) (ltP_f.1 h1))
theorem at_l {P R : List PairD} {i : Nat} (h : i < P.length) : at_ (P ++ R) i = at_ P i := by
  unfold at_; rw [List.getD_eq_getElem?_getD, List.getD_eq_getElem?_getD, List.getElem?_append_left h]
theorem at_r {P R : List PairD} {i : Nat} (h : P.length ≤ i) : at_ (P ++ R) i = at_ R (i - P.length) := by
  unfold at_; rw [List.getD_eq_getElem?_getD, List.getD_eq_getElem?_getD, List.getElem?_append_right h]
theorem srt_ix {Z : List PairD} (h : Srt ltP Z) {i j : Nat} (h1 : i ≤ j) (h2 : j < Z.length) : ltP (at_ Z j) (at_ Z i) = false := by
  unfold at_
  rw [List.getD_eq_getElem?_getD, List.getD_eq_getElem?_getD, List.getElem?_eq_getElem h2, List.getElem?_eq_getElem (by omega)]
  by_cases e : i = j
  · subst e; exact ordP.irr _
  · exact List.pairwise_iff_getElem.1 h i j (by omega) h2 (by omega)
theorem ix_srt {Z : List PairD} (h : ∀ i j, i ≤ j → j < Z.length → ltP (at_ Z j) (at_ Z i) = false) : Srt ltP Z := by
  refine List.pairwise_iff_getElem.2 fun i j hi hj hij => ?_
  have := h i j (by omega) hj
  unfold at_ at this
  rw [List.getD_eq_getElem?_getD, List.getD_eq_getElem?_getD, List.getElem?_eq_getElem hj, List.getElem?_eq_getElem hi] at this
  exact this
theorem mem_ix {Z : List PairD} {x : PairD} (h : x ∈ Z) : ∃ i, i < Z.length ∧ at_ Z i = x := by
  obtain ⟨i, hi, e⟩ := List.getElem_of_mem h
  refine ⟨i, hi, ?_⟩
  unfold at_
  rw [List.getD_eq_getElem?_getD, List.getElem?_eq_getElem hi]; exact e
theorem at_mid {P Z Q : List PairD} {i : Nat} (h1 : P.length ≤ i) (h2 : i < P.length + Z.length) : at_ (P ++ (Z ++ Q)) i = at_ Z (i - P.length) := by
  rw [at_r h1, at_l (by omega)]
theorem bs_spec (P : Nat → Bool) : ∀ (f i j : Nat), j - i < f → i ≤ j → (∀ x y, i ≤ x → x ≤ y → y < j → P y = true → P x = true) → (∀ c, i ≤ c → c < bs P f i j → P c = true) ∧ ∀ c, bs P f i j ≤ c → c < j → P c = false
  | 0, _, _, h, _, _ => by omega
  | f + 1, i, j, h, hij, hm => by
    unfold bs
    by_cases c : i < j
    · rw [if_pos c]
      by_cases t : P ((i + j) / 2) = true
      · rw [if_pos t]
        obtain ⟨k1, k2⟩ := bs_spec P f ((i + j) / 2 + 1) j (by omega) (by omega) fun x y h1 h2 h3 h4 => hm x y (by omega) h2 h3 h4
        refine ⟨fun q h1 h2 => ?_, k2⟩
        by_cases e : q ≤ (i + j) / 2
        · exact hm q _ h1 e (by omega) t
        · exact k1 q (by omega) h2
      · rw [if_neg t]
        obtain ⟨k1, k2⟩ := bs_spec P f i ((i + j) / 2) (by omega) (by omega) fun x y h1 h2 h3 h4 => hm x y h1 h2 (by omega) h4
        refine ⟨k1, fun q h1 h2 => ?_⟩
        by_cases e : q < (i + j) / 2
        · exact k2 q h1 e
        · exact Bool.eq_false_iff.2 fun r => t (hm _ q (by omega) (by omega) h2 r)
    · rw [if_neg c]
      exact ⟨fun q h1 h2 => by omega, fun q h1 h2 => by omega⟩
theorem split_len {l : List PairD} {k : Nat} (h : k ≤ l.length) : ∃ A B, l = A ++ B ∧ A.length = k :=
  ⟨List.take k l, List.drop k l, (List.take_append_drop _ _).symm, by rw [List.length_take]; omega⟩
theorem sym_ok : ∀ (f : Nat) (P X Y Q : List PairD), 1 ≤ X.length → 1 ≤ Y.length → X.length + Y.length ≤ f → Srt ltP X → Srt ltP Y →
    ∃ Z, symF f (P ++ (X ++ (Y ++ Q))) P.length (P.length + X.length) (P.length + X.length + Y.length) = P ++ (Z ++ Q) ∧ Fil ltP (X ++ Y) Z ∧ Srt ltP Z ∧ Z.length = X.length + Y.length
  | 0, _, _, _, _, h1, _, h, _, _ => by omega
  | f + 1, P, X, Y, Q, hx, hy, hf, sx, sy => by
    have aX : ∀ c, P.length ≤ c → c < P.length + X.length → at_ (P ++ (X ++ (Y ++ Q))) c = at_ X (c - P.length) := fun c h1 h2 => at_mid h1 h2
    have aY : ∀ c, P.length + X.length ≤ c → c < P.length + X.length + Y.length → at_ (P ++ (X ++ (Y ++ Q))) c = at_ Y (c - (P.length + X.length)) := fun c h1 h2 => by
      rw [← List.append_assoc, at_mid (by rw [List.length_append]; omega) (by rw [List.length_append]; omega), List.length_append]
    rw [symF]
    by_cases c1 : P.length + X.length - P.length = 1
    · rw [if_pos c1]
      obtain ⟨x, rfl⟩ : ∃ x, X = [x] := List.length_eq_one_iff.1 (by omega)
      simp only [List.length_singleton] at aX aY hf ⊢
      have e0 : at_ (P ++ ([x] ++ (Y ++ Q))) P.length = x := by rw [aX _ (Nat.le_refl _) (by omega), Nat.sub_self]; rfl
      rw [e0]
      have hb := bs_le (fun h => ltP (at_ (P ++ ([x] ++ (Y ++ Q))) h) x) (P.length + 1 + Y.length - (P.length + 1) + 1) (P.length + 1) (P.length + 1 + Y.length) (by omega)
      obtain ⟨k1, k2⟩ := bs_spec (fun h => ltP (at_ (P ++ ([x] ++ (Y ++ Q))) h) x) (P.length + 1 + Y.length - (P.length + 1) + 1) (P.length + 1) (P.length + 1 + Y.length) (by omega) (by omega) fun u v h1 h2 h3 h4 => by
        have h4 : ltP (at_ (P ++ ([x] ++ (Y ++ Q))) v) x = true := h4
        show ltP (at_ (P ++ ([x] ++ (Y ++ Q))) u) x = true
        rw [aY u (by omega) (by omega)]
        rw [aY v (by omega) h3] at h4
        have h5 := srt_ix sy (i := u - (P.length + 1)) (j := v - (P.length + 1)) (by omega) (by omega)
        cases h6 : ltP (at_ Y (u - (P.length + 1))) x with
        | true => rfl
        | false => rw [ordP.nt _ _ _ h5 h6] at h4; cases h4
      generalize bs (fun h => ltP (at_ (P ++ ([x] ++ (Y ++ Q))) h) x) (P.length + 1 + Y.length - (P.length + 1) + 1) (P.length + 1) (P.length + 1 + Y.length) = i at hb k1 k2
      obtain ⟨A, B, rfl, hA⟩ := split_len (l := Y) (k := i - (P.length + 1)) (by omega)
      rw [List.length_append] at hb k2 aY
      have hAx : ∀ y ∈ A, ltP y x = true := fun y hy => by
        obtain ⟨q, hq, rfl⟩ := mem_ix hy
        have := k1 (q + (P.length + 1)) (by omega) (by omega)
        rw [aY _ (by omega) (by omega), Nat.add_sub_cancel, at_l hq] at this
        exact this
      have hBx : ∀ y ∈ B, ltP y x = false := fun y hy => by
        obtain ⟨q, hq, rfl⟩ := mem_ix hy
        have := k2 (A.length + q + (P.length + 1)) (by omega) (by omega)
        rw [aY _ (by omega) (by omega), Nat.add_sub_cancel, at_r (by omega), Nat.add_sub_cancel_left] at this
        exact this
      obtain ⟨s1, s2, s3⟩ := srtS_app.1 sy
      refine ⟨A ++ ([x] ++ B), ?_, ?_, ?_, by simp; omega⟩
      · rw [show P ++ ([x] ++ ((A ++ B) ++ Q)) = P ++ ([x] ++ (A ++ (B ++ Q))) by simp, rot_eq P [x] A (B ++ Q) rfl (by simp) (by omega)]; simp
      · have h1 : Fil ltP ([x] ++ A) (A ++ [x]) := Fil.swap ordP fun u hu v hv => by rw [List.mem_singleton.1 hu]; exact hAx v hv
        have h2 := h1.app (Fil.refl (lt := ltP) B)
        simpa using h2
      · refine srtS_app.2 ⟨s1, srtS_app.2 ⟨List.pairwise_singleton _ _, s2, fun u hu v hv => by rw [List.mem_singleton.1 hu]; exact hBx v hv⟩, fun u hu v hv => ?_⟩
        rcases List.mem_append.1 hv with e | e
        · rw [List.mem_singleton.1 e]; exact ordP.as (hAx u hu)
        · exact s3 u hu v e
    · rw [if_neg c1]
      by_cases c2 : P.length + X.length + Y.length - (P.length + X.length) = 1
      · rw [if_pos c2]
        obtain ⟨y, rfl⟩ : ∃ y, Y = [y] := List.length_eq_one_iff.1 (by omega)
        simp only [List.length_singleton] at aX aY hf ⊢
        have e0 : at_ (P ++ (X ++ ([y] ++ Q))) (P.length + X.length) = y := by rw [aY _ (Nat.le_refl _) (by omega), Nat.sub_self]; rfl
        rw [e0]
        have hb := bs_le (fun h => !ltP y (at_ (P ++ (X ++ ([y] ++ Q))) h)) (P.length + X.length - P.length + 1) P.length (P.length + X.length) (by omega)
        obtain ⟨k1, k2⟩ := bs_spec (fun h => !ltP y (at_ (P ++ (X ++ ([y] ++ Q))) h)) (P.length + X.length - P.length + 1) P.length (P.length + X.length) (by omega) (by omega) fun u v h1 h2 h3 h4 => by
          have h4 : (!ltP y (at_ (P ++ (X ++ ([y] ++ Q))) v)) = true := h4
          show (!ltP y (at_ (P ++ (X ++ ([y] ++ Q))) u)) = true
          rw [aX u (by omega) (by omega)]
          rw [aX v (by omega) h3] at h4
          have h5 := srt_ix sx (i := u - P.length) (j := v - P.length) (by omega) (by omega)
          have h6 : ltP y (at_ X (v - P.length)) = false := by simpa using h4
          rw [ordP.nt _ _ _ h6 h5]; rfl
        generalize bs (fun h => !ltP y (at_ (P ++ (X ++ ([y] ++ Q))) h)) (P.length + X.length - P.length + 1) P.length (P.length + X.length) = i at hb k1 k2
        obtain ⟨A, B, rfl, hA⟩ := split_len (l := X) (k := i - P.length) (by omega)
        rw [List.length_append] at hb k2 aX
        have hAy : ∀ x ∈ A, ltP y x = false := fun x hx => by
          obtain ⟨q, hq, rfl⟩ := mem_ix hx
          have := k1 (q + P.length) (by omega) (by omega)
          rw [aX _ (by omega) (by omega), Nat.add_sub_cancel, at_l hq] at this
          simpa using this
        have hBy : ∀ x ∈ B, ltP y x = true := fun x hx => by
          obtain ⟨q, hq, rfl⟩ := mem_ix hx
          have := k2 (A.length + q + P.length) (by omega) (by omega)
          rw [aX _ (by omega) (by omega), Nat.add_sub_cancel, at_r (by omega), Nat.add_sub_cancel_left] at this
          simpa using this
        obtain ⟨s1, s2, s3⟩ := srtS_app.1 sx
        refine ⟨A ++ ([y] ++ B), ?_, ?_, ?_, by simp; omega⟩
        · rw [show P ++ ((A ++ B) ++ ([y] ++ Q)) = (P ++ A) ++ (B ++ ([y] ++ Q)) by simp, rot_eq (P ++ A) B [y] Q (by simp; omega) (by simp; omega) (by simp)]; simp
        · have h1 : Fil ltP (B ++ [y]) ([y] ++ B) := Fil.swap ordP fun u hu v hv => by rw [List.mem_singleton.1 hv]; exact hBy u hu
          have h2 := (Fil.refl (lt := ltP) A).app h1
          simpa using h2
        · refine srtS_app.2 ⟨s1, srtS_app.2 ⟨List.pairwise_singleton _ _, s2, fun u hu v hv => by rw [List.mem_singleton.1 hu]; exact ordP.as (hBy v hv)⟩, fun u hu v hv => ?_⟩
          rcases List.mem_append.1 hv with e | e
          · rw [List.mem_singleton.1 e]; exact hAy u hu
          · exact s3 u hu v e
      · rw [if_neg c2]
        dsimp only
        obtain ⟨a, ha⟩ : ∃ a, P.length = a := ⟨_, rfl⟩
        obtain ⟨m, hm⟩ : ∃ m, a + X.length = m := ⟨_, rfl⟩
        obtain ⟨b, hb⟩ : ∃ b, m + Y.length = b := ⟨_, rfl⟩
        simp only [ha, hm, hb] at aX aY c1 c2 ⊢
        obtain ⟨mid, hmid⟩ : ∃ mid, (a + b) / 2 = mid := ⟨_, rfl⟩
        have hd : mid < b ∧ a < mid := by omega
        rw [hmid]
        obtain ⟨l, hl⟩ : ∃ l, P ++ (X ++ (Y ++ Q)) = l := ⟨_, rfl⟩
        rw [hl] at aX aY ⊢
        have oX : ∀ i j, a ≤ i → i ≤ j → j < m → ltP (at_ l j) (at_ l i) = false := fun i j h1 h2 h3 => by
          rw [aX i h1 (by omega), aX j (by omega) h3]; exact srt_ix sx (by omega) (by omega)
        have oY : ∀ i j, m ≤ i → i ≤ j → j < b → ltP (at_ l j) (at_ l i) = false := fun i j h1 h2 h3 => by
          rw [aY i h1 (by omega), aY j (by omega) h3]; exact srt_ix sy (by omega) (by omega)
        have mono : ∀ lo hi, a ≤ lo → mid + m - b ≤ lo → hi ≤ mid → hi ≤ m → ∀ x y, lo ≤ x → x ≤ y → y < hi → (!ltP (at_ l (mid + m - 1 - y)) (at_ l y)) = true → (!ltP (at_ l (mid + m - 1 - x)) (at_ l x)) = true := fun lo hi g1 g2 g3 g4 x y h1 h2 h3 h4 => by
          have h5 : ltP (at_ l (mid + m - 1 - y)) (at_ l y) = false := by simpa using h4
          have h6 := oX x y (by omega) h2 (by omega)
          have h7 := oY (mid + m - 1 - y) (mid + m - 1 - x) (by omega) (by omega) (by omega)
          rw [ordP.nt _ _ _ h7 (ordP.nt _ _ _ h5 h6)]; rfl
        have hs : ∃ s, (if m > mid then bs (fun c => !ltP (at_ l (mid + m - 1 - c)) (at_ l c)) (mid - (mid + m - b) + 1) (mid + m - b) mid else bs (fun c => !ltP (at_ l (mid + m - 1 - c)) (at_ l c)) (m - a + 1) a m) = s ∧ a ≤ s ∧ mid + m - b ≤ s ∧ s ≤ mid ∧ s ≤ m ∧ (s = a ∨ s = mid + m - b ∨ ltP (at_ l (mid + m - s)) (at_ l (s - 1)) = false) ∧ (s = m ∨ s = mid ∨ ltP (at_ l (mid + m - 1 - s)) (at_ l s) = true) := by
          by_cases c : m > mid
          · have hb := bs_le (fun c => !ltP (at_ l (mid + m - 1 - c)) (at_ l c)) (mid - (mid + m - b) + 1) (mid + m - b) mid (by omega)
            obtain ⟨k1, k2⟩ := bs_spec (fun c => !ltP (at_ l (mid + m - 1 - c)) (at_ l c)) (mid - (mid + m - b) + 1) (mid + m - b) mid (by omega) (by omega) (mono (mid + m - b) mid (by omega) (Nat.le_refl _) (Nat.le_refl _) (by omega))
            refine ⟨_, if_pos c, by omega, hb.1, hb.2, by omega, ?_, ?_⟩
            · by_cases e : bs (fun c => !ltP (at_ l (mid + m - 1 - c)) (at_ l c)) (mid - (mid + m - b) + 1) (mid + m - b) mid = mid + m - b
              · exact .inr (.inl e)
              · have := k1 (bs (fun c => !ltP (at_ l (mid + m - 1 - c)) (at_ l c)) (mid - (mid + m - b) + 1) (mid + m - b) mid - 1) (by omega) (by omega)
                refine .inr (.inr ?_)
                generalize bs (fun c => !ltP (at_ l (mid + m - 1 - c)) (at_ l c)) (mid - (mid + m - b) + 1) (mid + m - b) mid = s at *
                rw [show mid + m - 1 - (s - 1) = mid + m - s by omega] at this
                simpa using this
            · by_cases e : bs (fun c => !ltP (at_ l (mid + m - 1 - c)) (at_ l c)) (mid - (mid + m - b) + 1) (mid + m - b) mid = mid
              · exact .inr (.inl e)
              · have := k2 _ (Nat.le_refl _) (by omega)
                exact .inr (.inr (by simpa using this))
          · have hb := bs_le (fun c => !ltP (at_ l (mid + m - 1 - c)) (at_ l c)) (m - a + 1) a m (by omega)
            obtain ⟨k1, k2⟩ := bs_spec (fun c => !ltP (at_ l (mid + m - 1 - c)) (at_ l c)) (m - a + 1) a m (by omega) (by omega) (mono a m (Nat.le_refl _) (by omega) (by omega) (Nat.le_refl _))
            refine ⟨_, if_neg c, hb.1, by omega, by omega, hb.2, ?_, ?_⟩
            · by_cases e : bs (fun c => !ltP (at_ l (mid + m - 1 - c)) (at_ l c)) (m - a + 1) a m = a
              · exact .inl e
              · have := k1 (bs (fun c => !ltP (at_ l (mid + m - 1 - c)) (at_ l c)) (m - a + 1) a m - 1) (by omega) (by omega)
                refine .inr (.inr ?_)
                generalize bs (fun c => !ltP (at_ l (mid + m - 1 - c)) (at_ l c)) (m - a + 1) a m = s at *
                rw [show mid + m - 1 - (s - 1) = mid + m - s by omega] at this
                simpa using this
            · by_cases e : bs (fun c => !ltP (at_ l (mid + m - 1 - c)) (at_ l c)) (m - a + 1) a m = m
              · exact .inl e
              · have := k2 _ (Nat.le_refl _) (by omega)
                exact .inr (.inr (by simpa using this))
        obtain ⟨s, es, s1, s2, s3, s4, s5, s6⟩ := hs
        rw [es]
        obtain ⟨A, B, rfl, hA⟩ := split_len (l := X) (k := s - a) (by omega)
        obtain ⟨C, D, rfl, hC⟩ := split_len (l := Y) (k := mid - s) (by omega)
        simp only [List.length_append] at hm hb hf
        have mA : ∀ x ∈ A, ∃ c, a ≤ c ∧ c < s ∧ at_ l c = x := fun x hx => by
          obtain ⟨q, hq, rfl⟩ := mem_ix hx
          exact ⟨q + a, by omega, by omega, by rw [aX _ (by omega) (by omega), Nat.add_sub_cancel, at_l hq]⟩
        have mB : ∀ x ∈ B, ∃ c, s ≤ c ∧ c < m ∧ at_ l c = x := fun x hx => by
          obtain ⟨q, hq, rfl⟩ := mem_ix hx
          exact ⟨A.length + q + a, by omega, by omega, by rw [aX _ (by omega) (by omega), Nat.add_sub_cancel, at_r (by omega), Nat.add_sub_cancel_left]⟩
        have mC : ∀ x ∈ C, ∃ c, m ≤ c ∧ c < mid + m - s ∧ at_ l c = x := fun x hx => by
          obtain ⟨q, hq, rfl⟩ := mem_ix hx
          exact ⟨q + m, by omega, by omega, by rw [aY _ (by omega) (by omega), Nat.add_sub_cancel, at_l hq]⟩
        have mD : ∀ x ∈ D, ∃ c, mid + m - s ≤ c ∧ c < b ∧ at_ l c = x := fun x hx => by
          obtain ⟨q, hq, rfl⟩ := mem_ix hx
          exact ⟨C.length + q + m, by omega, by omega, by rw [aY _ (by omega) (by omega), Nat.add_sub_cancel, at_r (by omega), Nat.add_sub_cancel_left]⟩
        have hCB : ∀ x ∈ B, ∀ y ∈ C, ltP y x = true := fun x hx y hy => by
          obtain ⟨c, h1, h2, rfl⟩ := mB x hx
          obtain ⟨d, h3, h4, rfl⟩ := mC y hy
          rcases s6 with e | e | e
          · omega
          · omega
          · have h5 := oX s c s1 h1 h2
            have h6 := oY d (mid + m - 1 - s) h3 (by omega) (by omega)
            cases h7 : ltP (at_ l d) (at_ l c) with
            | true => rfl
            | false => rw [ordP.nt _ _ _ (ordP.nt _ _ _ h6 h7) h5] at e; cases e
        have hAD : ∀ x ∈ A, ∀ y ∈ D, ltP y x = false := fun x hx y hy => by
          obtain ⟨c, h1, h2, rfl⟩ := mA x hx
          obtain ⟨d, h3, h4, rfl⟩ := mD y hy
          rcases s5 with e | e | e
          · omega
          · omega
          · have h5 := oX c (s - 1) h1 (by omega) (by omega)
            have h6 := oY (mid + m - s) d (by omega) h3 h4
            exact ordP.nt _ _ _ (ordP.nt _ _ _ h6 e) h5
        obtain ⟨sA, sB, sAB⟩ := srtS_app.1 sx
        obtain ⟨sC, sD, sCD⟩ := srtS_app.1 sy
        have e1 : (if s < m ∧ m < mid + m - s then rot l s m (mid + m - s) else l) = P ++ (A ++ (C ++ (B ++ (D ++ Q)))) := by
          rw [← hl]
          by_cases c : s < m ∧ m < mid + m - s
          · rw [if_pos c, show P ++ ((A ++ B) ++ ((C ++ D) ++ Q)) = (P ++ A) ++ (B ++ (C ++ (D ++ Q))) by simp, rot_eq (P ++ A) B C (D ++ Q) (by rw [List.length_append]; omega) (by omega) (by omega)]
            simp
          · rw [if_neg c]
            by_cases c3 : B = []
            · subst c3; simp
            · have : C = [] := by
                apply List.eq_nil_of_length_eq_zero
                have : 1 ≤ B.length := Nat.one_le_iff_ne_zero.2 fun e => c3 (List.eq_nil_of_length_eq_zero e)
                omega
              subst this; simp
        rw [e1]
        have hZ1 : ∃ Z1, (if a < s ∧ s < mid then symF f (P ++ (A ++ (C ++ (B ++ (D ++ Q))))) a s mid else P ++ (A ++ (C ++ (B ++ (D ++ Q))))) = P ++ (Z1 ++ (B ++ (D ++ Q))) ∧ Fil ltP (A ++ C) Z1 ∧ Srt ltP Z1 ∧ Z1.length = A.length + C.length := by
          by_cases c : a < s ∧ s < mid
          · obtain ⟨Z, z1, z2, z3, z4⟩ := sym_ok f P A C (B ++ (D ++ Q)) (by omega) (by omega) (by omega) sA sC
            refine ⟨Z, ?_, z2, z3, z4⟩
            rw [if_pos c, ← z1]
            congr 1 <;> omega
          · rw [if_neg c]
            by_cases c3 : A = []
            · subst c3; exact ⟨C, by simp, Fil.refl _, sC, by simp⟩
            · have : C = [] := by
                apply List.eq_nil_of_length_eq_zero
                have : 1 ≤ A.length := Nat.one_le_iff_ne_zero.2 fun e => c3 (List.eq_nil_of_length_eq_zero e)
                omega
              subst this; exact ⟨A, by simp, by rw [List.append_nil]; exact Fil.refl _, sA, by simp⟩
        obtain ⟨Z1, y1, y2, y3, y4⟩ := hZ1
        rw [y1]
        have hZ2 : ∃ Z2, (if mid < mid + m - s ∧ mid + m - s < b then symF f (P ++ (Z1 ++ (B ++ (D ++ Q)))) mid (mid + m - s) b else P ++ (Z1 ++ (B ++ (D ++ Q)))) = P ++ (Z1 ++ (Z2 ++ Q)) ∧ Fil ltP (B ++ D) Z2 ∧ Srt ltP Z2 ∧ Z2.length = B.length + D.length := by
          by_cases c : mid < mid + m - s ∧ mid + m - s < b
          · obtain ⟨Z, z1, z2, z3, z4⟩ := sym_ok f (P ++ Z1) B D Q (by omega) (by omega) (by omega) sB sD
            refine ⟨Z, ?_, z2, z3, z4⟩
            have g1 : (P ++ Z1).length = mid := by rw [List.length_append]; omega
            rw [g1, show mid + B.length = mid + m - s by omega, show mid + m - s + D.length = b by omega] at z1
            rw [if_pos c, show P ++ (Z1 ++ (B ++ (D ++ Q))) = (P ++ Z1) ++ (B ++ (D ++ Q)) by simp, z1]
            simp
          · rw [if_neg c]
            by_cases c3 : B = []
            · subst c3; exact ⟨D, by simp, Fil.refl _, sD, by simp⟩
            · have : D = [] := by
                apply List.eq_nil_of_length_eq_zero
                have : 1 ≤ B.length := Nat.one_le_iff_ne_zero.2 fun e => c3 (List.eq_nil_of_length_eq_zero e)
                omega
              subst this; exact ⟨B, by simp, by rw [List.append_nil]; exact Fil.refl _, sB, by simp⟩
        obtain ⟨Z2, w1, w2, w3, w4⟩ := hZ2
        refine ⟨Z1 ++ Z2, by rw [w1]; simp, ?_, srtS_app.2 ⟨y3, w3, fun u hu v hv => ?_⟩, by simp; omega⟩
        · have h1 := (Fil.refl (lt := ltP) A).app ((Fil.swap ordP hCB).app (Fil.refl (lt := ltP) D))
          have h2 : Fil ltP (A ++ ((C ++ B) ++ D)) (Z1 ++ Z2) := by
            have := y2.app w2
            simpa using this
          refine Fil.trans ?_ h2
          simpa using h1
        · have hu2 := y2.mem ordP hu
          have hv2 := w2.mem ordP hv
          rcases List.mem_append.1 hu2 with e | e <;> rcases List.mem_append.1 hv2 with g | g
          · exact sAB u e v g
          · exact hAD u e v g
          · exact ordP.as (hCB v g u e)
          · exact sCD u e v g
end Go.Proofs.Ytcjjblkgbfaapaa
