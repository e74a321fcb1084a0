/-
  Numbers and texts: what was written is read as it was, what is read was written so, what was cut is too short.
  Conditions: numbers of 64 bits.
-/
import Derived.Test.YtccjclalngabhaaGreatWiN
namespace Go.Proofs.YtccjclalngabhaaGreat
set_option linter.unusedVariables false
set_option linter.unusedSimpArgs false
theorem nlen_wfn : ∀ (p rest : List UInt8) (k : Nat), wfn p → k + List.length p ≤ 10 → octet_numLen_L0 (p ++ rest) k = .inr ((k + List.length p : Nat) : Int)
  | [], _, _, h, _ => h.elim
  | [b], rest, k, h, hk => by
    have h' : b.toNat < 128 := h
    simp only [List.length_cons, List.length_nil] at hk ⊢
    unfold octet_numLen_L0
    show (if ((k : Nat) : Int) = 10 then _ else _) = _
    rw [if_neg (by omega), if_pos (by omega)]
  | b :: c :: r, rest, k, h, hk => by
    obtain ⟨h1, h2⟩ := h
    have ih := nlen_wfn (c :: r) rest (k + 1) h2 (by simp only [List.length_cons] at hk ⊢; omega)
    unfold octet_numLen_L0
    show (if ((k : Nat) : Int) = 10 then _ else _) = _
    simp only [List.length_cons] at hk
    rw [if_neg (by omega), if_neg (by omega)]
    refine ih.trans ?_
    simp only [List.length_cons]
    rw [show k + 1 + (List.length r + 1) = k + (List.length r + 1 + 1) by omega]
theorem num_len (n : Nat) (hn : n ≤ 18446744073709551615) : 1 ≤ List.length (r01_Num n) ∧ List.length (r01_Num n) ≤ 10 := by
  obtain ⟨n1, n2, n3, n4⟩ := num_props n
  have h1 := wfn_len n2
  refine ⟨h1, ?_⟩
  rcases Nat.lt_or_ge 10 (List.length (r01_Num n)) with h | h
  · exfalso
    obtain ⟨d1, d2, d3⟩ := dec_lt _ n2
    have hp : 0 < n := Nat.pos_of_ne_zero fun e => by have := n4 e; omega
    have h3 := n3 hp
    have : (128 : Nat) ^ 10 ≤ 128 ^ (List.length (r01_Num n) - 1) := Nat.pow_le_pow_right (by decide) (by omega)
    have h5 : 1 * 128 ^ 10 ≤ lst (r01_Num n) * 128 ^ (List.length (r01_Num n) - 1) := Nat.mul_le_mul (by omega) this
    have : (18446744073709551616 : Nat) ≤ 1 * 128 ^ 10 := by decide
    omega
  · exact h
theorem rn_f (n : Nat) (t : List UInt8) (hn : n ≤ 18446744073709551615) : octet_ReadNum (octet_Num n ++ t) = (n, ((List.length (octet_Num n) : Nat) : Int), 0) := by
  rw [num_eq, rn_eq]
  obtain ⟨n1, n2, n3, n4⟩ := num_props n
  have hl := num_len n hn
  have hN := nlen_wfn (r01_Num n) t 0 n2 (by omega)
  unfold r01_ReadNum
  rcases scan (r01_Num n ++ t) (r01_Num n ++ t) 0 [] rfl rfl (by simp) (by omega) with ⟨ha, hb⟩ | ⟨p, rest, he, hw, h10, ha, hb⟩
  · rw [hN] at ha
    rcases ha with ha | ha
    · cases ha
    · have := Sum.inr.inj ha; omega
  · rw [hN] at ha
    have hlen : List.length (r01_Num n) = List.length p := by have := Sum.inr.inj ha; omega
    have hp : r01_Num n = p := (List.append_inj he hlen).1
    subst hp
    have hl1 : List.length (r01_Num n) - 1 + 1 = List.length (r01_Num n) := by omega
    have hz := horner (r01_Num n ++ t) (r01_Num n) t rfl (List.length (r01_Num n) - 1) (List.length (r01_Num n)) (List.length (r01_Num n) + 1) 0 (Nat.le_refl _) (by omega) (by rw [List.drop_of_length_le (Nat.le_refl _)]; rfl)
    have e1 : Int.toNat ((((List.length (r01_Num n) - 1 : Nat)) : Int) + 1) = List.length (r01_Num n) := by omega
    have e2 : (((List.length (r01_Num n) - 1 : Nat)) : Int) = ((List.length (r01_Num n) : Nat) : Int) - 1 := by omega
    rw [hb, e1, bnd_eq (x := r01_ReadNum_L1 _ _ _ _ _), e2, hz, bnd_eq, hl1, List.take_left, n1, Nat.mod_eq_of_lt (by omega), if_neg (by simp)]
    rfl
theorem rn_b {l : List UInt8} (h : (octet_ReadNum l).2.2 = 0) : l = octet_Num (octet_ReadNum l).1 ++ List.drop (Int.toNat (octet_ReadNum l).2.1) l ∧ (octet_ReadNum l).1 ≤ 18446744073709551615 := by
  rw [rn_eq] at h ⊢
  unfold r01_ReadNum at h ⊢
  rcases scan l l 0 [] rfl rfl (by simp) (by omega) with ⟨ha, hb⟩ | ⟨p, rest, he, hw, h10, ha, hb⟩
  · rw [hb] at h
    exfalso
    revert h
    show (lp (lpS (Sum.inl ()) fun _ => Sum.inl ()) fun _ => if ((List.length l : Nat) : Int) ≥ 10 then ((0 : Nat), (0 : Int), (11 : Int)) else (0, 0, 10)).2.2 = 0 → False
    simp only [lp, lpS]
    split <;> decide
  · have h1 := wfn_len hw
    have hl1 : List.length p - 1 + 1 = List.length p := by omega
    have hz := horner l p rest he (List.length p - 1) (List.length p) (List.length p + 1) 0 (Nat.le_refl _) (by omega) (by rw [List.drop_of_length_le (Nat.le_refl _)]; rfl)
    have e1 : Int.toNat ((((List.length p - 1 : Nat)) : Int) + 1) = List.length p := by omega
    have e2 : (((List.length p - 1 : Nat)) : Int) = ((List.length p : Nat) : Int) - 1 := by omega
    have ht : List.take (List.length p) l = p := by rw [he, List.take_left]
    rw [hb, e1, bnd_eq (x := r01_ReadNum_L1 _ _ _ _ _), e2, hz, bnd_eq, hl1, ht] at h ⊢
    by_cases c : r01_Num (dec p % 18446744073709551616) = p
    · rw [if_neg (by simp [c])]
      simp only [lp, lpS]
      rw [num_eq, c, Int.toNat_natCast]
      refine ⟨?_, ?_⟩
      · conv => lhs; rw [he]
        rw [he, List.drop_left]
      · have := Nat.mod_lt (dec p) (show 0 < 18446744073709551616 by decide); omega
    · rw [if_pos c] at h
      simp only [lp, lpS] at h
      exact absurd h (by decide)
end Go.Proofs.YtccjclalngabhaaGreat
