/-
  The mathematics of numbers as bytes: there and back.
  Conditions: none.
-/
import Derived.Test.YtpeemmcaecghjaaOctM
namespace Go.Proofs.Ytpeemmcaecghjaa

theorem num_pos (n : Nat) : 1 ≤ (num n).length := by
  by_cases h : n < 128
  · rw [num_lt h]; simp
  · rw [num_ge h]; simp

theorem num_mono : ∀ (k a b : Nat), b < k → a ≤ b → (num a).length ≤ (num b).length := by
  intro k
  induction k with
  | zero => intro a b h; omega
  | succ k ih =>
    intro a b hk hab
    by_cases hb : b < 128
    · rw [num_lt hb, num_lt (show a < 128 by omega)]
      simp
    · rw [num_ge hb]
      by_cases ha : a < 128
      · rw [num_lt ha]; simp
      · rw [num_ge ha, List.length_cons, List.length_cons]
        have := ih (a / 128) (b / 128) (by omega) (by omega)
        omega

theorem unum_num : ∀ (k n : Nat), n < k → unum (num n) = n := by
  intro k
  induction k with
  | zero => intro n h; omega
  | succ k ih =>
    intro n hk
    by_cases h : n < 128
    · rw [num_lt h, unum, unum, ofNat_toNat (by omega)]; omega
    · rw [num_ge h, unum, ih (n / 128) (by omega), ofNat_toNat (by omega)]; omega

theorem num_inj {a b : Nat} (h : num a = num b) : a = b := by
  rw [← unum_num (a + 1) a (by omega), h, unum_num (b + 1) b (by omega)]


/-- All bytes but the last one are at least 128, the last one is below. -/
def Shape : List UInt8 → Prop
  | [] => False
  | [x] => x.toNat < 128
  | x :: y :: ys => 128 ≤ x.toNat ∧ Shape (y :: ys)

theorem num_cons (n : Nat) : ∃ x xs, num n = x :: xs := by
  by_cases h : n < 128
  · exact ⟨_, _, num_lt h⟩
  · exact ⟨_, _, num_ge h⟩

theorem shape_num : ∀ (k n : Nat), n < k → Shape (num n) := by
  intro k
  induction k with
  | zero => intro n h; omega
  | succ k ih =>
    intro n hk
    by_cases h : n < 128
    · rw [num_lt h]
      show (UInt8.ofNat n).toNat < 128
      rw [ofNat_toNat (by omega)]; exact h
    · rw [num_ge h]
      have := ih (n / 128) (by omega)
      obtain ⟨x, xs, e⟩ := num_cons (n / 128)
      rw [e] at this ⊢
      exact ⟨by rw [ofNat_toNat (by omega)]; omega, this⟩

theorem shape_get : ∀ (xs : List UInt8), Shape xs → 1 ≤ xs.length ∧ ∀ i (h : i < xs.length), (i + 1 < xs.length → 128 ≤ xs[i].toNat) ∧ (i + 1 = xs.length → xs[i].toNat < 128)
  | [], h => h.elim
  | [x], h => ⟨by simp, fun i hi => by
    have : i = 0 := by simpa using hi
    subst this
    exact ⟨fun h' => by simp at h', fun _ => h⟩⟩
  | x :: y :: ys, h => ⟨by simp, fun i hi => by
    obtain ⟨_, hr⟩ := shape_get (y :: ys) h.2
    rcases i with _ | i
    · exact ⟨fun _ => h.1, fun h' => by simp at h'⟩
    · have := hr i (by simpa using hi)
      exact ⟨fun h' => by simpa using this.1 (by simpa using h'), fun h' => by simpa using this.2 (by simpa using h')⟩⟩

theorem nlen_shape {xs : List UInt8} (hs : Shape xs) (hl : xs.length ≤ 10) (ys : List UInt8) : nlen (xs ++ ys) = xs.length := by
  obtain ⟨h1, h2⟩ := shape_get xs hs
  have h3 := h2 (xs.length - 1) (by omega)
  have := nlen_hit (xs := xs ++ ys) (i := xs.length - 1) (by simp; omega) (by omega)
    (by rw [List.getElem_append_left (by omega)]; exact h3.2 (by omega))
    (fun j hj hlt => by rw [List.getElem_append_left (by omega)]; exact (h2 j (by omega)).1 (by omega))
  omega

theorem nlen_cut {xs : List UInt8} (hs : Shape xs) : nlen (xs.take (xs.length - 1)) = 0 := by
  obtain ⟨h1, h2⟩ := shape_get xs hs
  refine nlen_miss fun j hj _ => ?_
  simp at hj
  rw [List.getElem_take]
  exact (h2 j (by omega)).1 (by omega)

/-- The greatest seven bits of a number. -/
theorem num_last : ∀ (k n : Nat), n < k → (((num n)[(num n).length - 1]?).getD 0).toNat = n / 128 ^ ((num n).length - 1) ∧ (1 < (num n).length → 128 ^ ((num n).length - 1) ≤ n) := by
  intro k
  induction k with
  | zero => intro n h; omega
  | succ k ih =>
    intro n hk
    by_cases h : n < 128
    · rw [num_lt h]
      refine ⟨?_, fun h' => by simp at h'⟩
      have : (UInt8.ofNat n).toNat = n := ofNat_toNat (by omega)
      simpa using this
    · obtain ⟨e1, e2⟩ := ih (n / 128) (by omega)
      have hp := num_pos (n / 128)
      rw [num_ge h]
      obtain ⟨m, hm⟩ : ∃ m, (num (n / 128)).length = m + 1 := ⟨(num (n / 128)).length - 1, by omega⟩
      rw [hm, Nat.add_sub_cancel] at e1
      rw [hm, Nat.add_sub_cancel] at e2
      rw [List.length_cons, hm, Nat.add_sub_cancel, List.getElem?_cons_succ]
      refine ⟨by rw [e1, Nat.pow_succ, Nat.mul_comm, Nat.div_div_eq_div_mul], fun _ => ?_⟩
      rw [Nat.pow_succ]
      rcases Nat.eq_zero_or_pos m with h0 | h0
      · subst h0; omega
      · have := e2 (by omega)
        omega

theorem rdNum_num (n : Nat) (hn : n < 18446744073709551616) (ys : List UInt8) : rdNum (num n ++ ys) = (n, (num n).length, 0) := by
  have hs := shape_num (n + 1) n (by omega)
  have hl := num_len hn
  have hp := num_pos n
  have e1 := nlen_shape hs hl ys
  obtain ⟨e2, e3⟩ := num_last (n + 1) n (by omega)
  have e4 : lastOf (num n ++ ys) = n / 128 ^ ((num n).length - 1) := by
    unfold lastOf
    rw [e1, List.getElem?_append_left (by omega)]
    exact e2
  unfold rdNum
  rw [e1, if_neg (by omega), if_neg, List.take_left, unum_num (n + 1) n (by omega)]
  rw [e4]
  rintro (⟨h1, h2⟩ | ⟨h1, h2⟩)
  · have h3 := e3 h1
    have := (Nat.div_eq_zero_iff).1 h2
    rcases this with h4 | h4
    · have : 0 < 128 ^ ((num n).length - 1) := Nat.pow_pos (by decide)
      omega
    · omega
  · rw [h1] at h2
    have : 1 < n / 9223372036854775808 := h2
    omega

theorem unum_pos : ∀ (xs : List UInt8), Shape xs → (xs[xs.length - 1]?.getD 0).toNat ≠ 0 → 0 < unum xs
  | [], h, _ => h.elim
  | [x], h, h0 => by
    have h : x.toNat < 128 := h
    have h0 : x.toNat ≠ 0 := by simpa using h0
    rw [unum]; omega
  | x :: y :: ys, h, h0 => by
    have := unum_pos (y :: ys) h.2 (by simpa using h0)
    rw [unum]; omega

theorem num_unum : ∀ (xs : List UInt8), Shape xs → (1 < xs.length → (xs[xs.length - 1]?.getD 0).toNat ≠ 0) → num (unum xs) = xs
  | [], h, _ => h.elim
  | [x], h, _ => by
    have h : x.toNat < 128 := h
    rw [unum, unum, num_lt (by omega), show x.toNat % 128 + 128 * 0 = x.toNat by omega]
    simp
  | x :: y :: ys, h, h0 => by
    have h0' : ((y :: ys)[(y :: ys).length - 1]?.getD 0).toNat ≠ 0 := by simpa using h0 (by simp)
    have hp := unum_pos (y :: ys) h.2 h0'
    have ih := num_unum (y :: ys) h.2 (fun _ => h0')
    have hx := h.1
    have hx2 := x.toNat_lt
    rw [unum, num_ge (by omega), show (x.toNat % 128 + 128 * unum (y :: ys)) / 128 = unum (y :: ys) by omega, ih, show (x.toNat % 128 + 128 * unum (y :: ys)) % 128 + 128 = x.toNat by omega]
    simp

theorem shape_of : ∀ (xs : List UInt8), 1 ≤ xs.length → (∀ i (h : i < xs.length), (i + 1 < xs.length → 128 ≤ xs[i].toNat) ∧ (i + 1 = xs.length → xs[i].toNat < 128)) → Shape xs
  | [], h, _ => by simp at h
  | [x], _, h => (h 0 (by simp)).2 rfl
  | x :: y :: ys, _, h => ⟨(h 0 (by simp)).1 (by simp), shape_of (y :: ys) (by simp) fun i hi => by
    have := h (i + 1) (by simpa using hi)
    exact ⟨fun h' => by simpa using this.1 (by simpa using h'), fun h' => by simpa using this.2 (by simpa using h')⟩⟩

/-- What was read, written again, are the bytes that were read. -/
theorem num_rdNum {xs : List UInt8} (h : (rdNum xs).2.2 = 0) : num (rdNum xs).1 = xs.take (rdNum xs).2.1 ∧ (rdNum xs).1 < 18446744073709551616 := by
  rcases nlen_cases xs with ⟨i, hi, h10, hlt, hb, e⟩ | ⟨e, _⟩
  · unfold rdNum at h ⊢
    rw [e, if_neg (by omega)] at h ⊢
    split at h
    · simp at h
    · rename_i hbad
      rw [if_neg hbad]
      simp only
      have hl : (xs.take (i + 1)).length = i + 1 := by simp; omega
      have hs : Shape (xs.take (i + 1)) := shape_of _ (by omega) fun j hj => by
        rw [List.getElem_take]
        refine ⟨fun h' => hb j (by omega) (by omega), fun h' => ?_⟩
        have : j = i := by omega
        subst this; exact hlt
      have hlast : lastOf xs = ((xs.take (i + 1))[(xs.take (i + 1)).length - 1]?.getD 0).toNat := by
        unfold lastOf
        rw [e, hl, Nat.add_sub_cancel, List.getElem?_take, if_pos (by omega)]
      refine ⟨num_unum _ hs fun h' => ?_, ?_⟩
      · rw [← hlast]
        intro h0
        exact hbad (.inl ⟨by omega, h0⟩)
      · have h1 := unum_lt (xs.take (i + 1))
        rw [hl] at h1
        by_cases h9 : i < 9
        · have : 128 ^ (i + 1) ≤ 128 ^ 9 := Nat.pow_le_pow_right (by decide) (by omega)
          have h2 : (128 : Nat) ^ 9 < 18446744073709551616 := by decide
          omega
        · have h9' : i = 9 := by omega
          subst h9'
          have hx1 : lastOf xs ≤ 1 := by
            rcases Nat.lt_or_ge 1 (lastOf xs) with h' | h'
            · exact absurd (.inr ⟨rfl, h'⟩) hbad
            · exact h'
          obtain ⟨x, hx⟩ : ∃ x, xs[9]? = some x := ⟨_, List.getElem?_eq_getElem hi⟩
          rw [unum_take hx]
          have hx2 : x.toNat ≤ 1 := by
            unfold lastOf at hx1
            rw [e, Nat.add_sub_cancel, hx] at hx1
            exact hx1
          have h3 := unum_lt (xs.take 9)
          have h4 : (xs.take 9).length = 9 := by simp; omega
          rw [h4] at h3
          have h5 : x.toNat % 128 ≤ 1 := by omega
          have h6 : x.toNat % 128 * 128 ^ 9 ≤ 1 * 128 ^ 9 := Nat.mul_le_mul_right _ h5
          have h7 : 1 * (128 : Nat) ^ 9 + 128 ^ 9 ≤ 18446744073709551616 := by decide
          omega
  · unfold rdNum at h
    rw [if_pos e] at h
    simp only at h
    split at h <;> simp at h

theorem txt_len (s : ByteArray) : (txt s).length = (num s.size).length + s.size := by unfold txt; rw [List.length_append, Array.length_toList]; rfl
theorem data_len (s : ByteArray) : s.data.toList.length = s.size := by rw [Array.length_toList]; rfl

theorem rdText_back (s : ByteArray) (hs : s.size ≤ 100000) (ys : List UInt8) : rdText (txt s ++ ys) (s.size : Int) = (s.data.toList, (txt s).length, 0) := by
  have e : txt s ++ ys = num s.size ++ (s.data.toList ++ ys) := by unfold txt; rw [List.append_assoc]
  have hr := rdNum_num s.size (by omega) (s.data.toList ++ ys)
  have hd := data_len s
  unfold rdText
  rw [e, hr]
  simp only
  rw [if_neg (by simp), if_neg (by omega), if_neg (by simp only [List.length_append]; omega), List.drop_left, txt_len]
  congr 1
  rw [← hd, List.take_left]

theorem rdText_long (s : ByteArray) (hs : s.size ≤ 100000) : rdText (txt s) ((s.size : Int) - 1) = ([], 0, 2) := by
  have hr := rdNum_num s.size (by omega) s.data.toList
  unfold rdText
  have e : txt s = num s.size ++ s.data.toList := rfl
  rw [e, hr]
  simp only
  rw [if_neg (by simp), if_pos (by omega)]

theorem rdNum_cut (n : Nat) (hn : n < 18446744073709551616) : rdNum ((num n).take ((num n).length - 1)) = (0, 0, 10) := by
  unfold rdNum
  have hl := num_len hn
  rw [if_pos (nlen_cut (shape_num (n + 1) n (by omega))), if_neg]
  simp only [List.length_take]
  omega

theorem rdText_cut (s : ByteArray) (hs : s.size ≤ 100000) : rdText ((txt s).take ((txt s).length - 1)) (s.size : Int) = ([], 0, 10) := by
  have hd := data_len s
  have hp := num_pos s.size
  unfold rdText
  by_cases h0 : s.size = 0
  · have e : (txt s).take ((txt s).length - 1) = (num s.size).take ((num s.size).length - 1) := by
      rw [txt_len, h0]
      unfold txt
      rw [h0, List.take_append_of_le_length (by omega)]
      rfl
    rw [e, rdNum_cut s.size (by omega)]
    simp
  · have e : (txt s).take ((txt s).length - 1) = num s.size ++ s.data.toList.take (s.size - 1) := by
      rw [txt_len]
      unfold txt
      rw [show (num s.size).length + s.size - 1 = (num s.size).length + (s.size - 1) by omega, List.take_length_add_append]
    rw [e, rdNum_num s.size (by omega)]
    simp only
    rw [if_neg (by simp), if_neg (by omega), if_pos (by simp only [List.length_append, List.length_take]; omega)]
end Go.Proofs.Ytpeemmcaecghjaa
