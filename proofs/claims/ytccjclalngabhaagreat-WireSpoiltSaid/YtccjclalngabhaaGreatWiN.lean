/-
  Numbers and texts, written and read: the program's way and the reference's are one.
  Conditions: none beyond each law's own.
-/
import Derived.Test.YtccjclalngabhaaGreatWu
import Derived.Test.YtccjclalngabhaaGreatWx
import Derived.Test.YtccjclalngabhaaGreatWe
import Derived.Test.YtccjclalngabhaaGreatWiD
namespace Go.Proofs.YtccjclalngabhaaGreat
set_option linter.unusedVariables false
set_option linter.unusedSimpArgs false
def dec : List UInt8 → Nat
  | [] => 0
  | b :: r => b.toNat % 128 + 128 * dec r
def wfn : List UInt8 → Prop
  | [] => False
  | [b] => b.toNat < 128
  | b :: c :: r => 128 ≤ b.toNat ∧ wfn (c :: r)
def lst : List UInt8 → Nat
  | [] => 0
  | [b] => b.toNat
  | _ :: c :: r => lst (c :: r)
theorem toN (n : Nat) (h : n < 256) : (UInt8.ofNat n).toNat = n := by
  simp only [UInt8.toNat_ofNat']; omega
theorem b128 (n : Nat) (h : n < 128) : ((UInt8.ofNat n) + (128 : UInt8)).toNat = n + 128 := by
  rw [UInt8.toNat_add, toN n (by omega)]
  show (n + 128) % 2 ^ 8 = _
  omega
theorem num_props (n : Nat) : dec (r01_Num n) = n ∧ wfn (r01_Num n) ∧ (0 < n → lst (r01_Num n) ≠ 0) ∧ (n = 0 → List.length (r01_Num n) = 1) := by
  induction n using Nat.strongRecOn with
  | _ n ih =>
    rw [r01_Num_eq]
    by_cases h : ((n : Nat) : Int) < 128
    · rw [if_pos h]
      have e := toN n (by omega)
      simp only [dec, wfn, lst, e, List.length_cons, List.length_nil]
      exact ⟨by omega, by omega, fun h => by omega, fun _ => trivial⟩
    · rw [if_neg h, bnd_eq]
      obtain ⟨h1, h2, h3, _⟩ := ih (n / 128) (by omega)
      have e := b128 (n % 128) (by omega)
      cases hp : r01_Num (n / 128) with
      | nil => rw [hp] at h2; exact h2.elim
      | cons c r =>
        rw [hp] at h1 h2 h3
        simp only [List.cons_append, List.nil_append]
        refine ⟨?_, ⟨by omega, h2⟩, fun _ => h3 (by omega), by omega⟩
        show _ % 128 + 128 * dec (c :: r) = n
        rw [h1, e]
        omega
theorem dec_pos : ∀ p : List UInt8, wfn p → lst p ≠ 0 → 0 < dec p
  | [], h, _ => h.elim
  | [b], h, h2 => by
    simp only [wfn] at h; simp only [lst] at h2; simp only [dec]; omega
  | b :: c :: r, h, h2 => by
    have := dec_pos (c :: r) h.2 h2
    show 0 < _ + 128 * dec (c :: r)
    omega
theorem u8_eq {a b : UInt8} (h : a.toNat = b.toNat) : a = b := UInt8.toNat_inj.1 h
theorem num_of : ∀ p : List UInt8, wfn p → (List.length p = 1 ∨ lst p ≠ 0) → r01_Num (dec p) = p
  | [], h, _ => h.elim
  | [b], h, _ => by
    simp only [wfn] at h
    have e : dec [b] = b.toNat := by simp only [dec]; omega
    rw [e, r01_Num_eq, if_pos (by omega)]
    exact congrArg (fun x => [x]) (u8_eq (toN _ (by omega)))
  | b :: c :: r, h, h2 => by
    have hl : lst (c :: r) ≠ 0 := by
      rcases h2 with h2 | h2
      · simp at h2
      · exact h2
    have hp := dec_pos (c :: r) h.2 hl
    have ih := num_of (c :: r) h.2 (.inr hl)
    have e : dec (b :: c :: r) = b.toNat % 128 + 128 * dec (c :: r) := rfl
    have hb := UInt8.toNat_lt b
    have h1 := h.1
    rw [r01_Num_eq, if_neg (by omega), bnd_eq, e]
    rw [show (b.toNat % 128 + 128 * dec (c :: r)) / 128 = dec (c :: r) by omega, ih, show (b.toNat % 128 + 128 * dec (c :: r)) % 128 = b.toNat % 128 by omega]
    simp only [List.cons_append, List.nil_append]
    exact congrArg (fun x => x :: c :: r) (u8_eq (by rw [b128 _ (by omega)]; omega))
theorem dec_lt : ∀ p : List UInt8, wfn p → dec p < (lst p + 1) * 128 ^ (List.length p - 1) ∧ lst p * 128 ^ (List.length p - 1) ≤ dec p ∧ lst p < 128
  | [], h => h.elim
  | [b], h => by
    simp only [wfn] at h
    simp only [dec, lst, List.length_cons, List.length_nil]
    omega
  | b :: c :: r, h => by
    obtain ⟨h1, h2, h3⟩ := dec_lt (c :: r) h.2
    have e : dec (b :: c :: r) = b.toNat % 128 + 128 * dec (c :: r) := rfl
    have el : lst (b :: c :: r) = lst (c :: r) := rfl
    have en : List.length (b :: c :: r) - 1 = (List.length (c :: r) - 1) + 1 := by simp only [List.length_cons]; omega
    rw [e, el, en, Nat.pow_succ, ← Nat.mul_assoc, ← Nat.mul_assoc]
    refine ⟨by omega, by omega, h3⟩
theorem wfn_app : ∀ (pre : List UInt8) (x : UInt8), (∀ b ∈ pre, 128 ≤ b.toNat) → x.toNat < 128 → wfn (pre ++ [x]) ∧ lst (pre ++ [x]) = x.toNat
  | [], x, _, h => ⟨h, rfl⟩
  | [b], x, hb, h => ⟨⟨hb b (by simp), h⟩, rfl⟩
  | b :: c :: r, x, hb, h => by
    have ih := wfn_app (c :: r) x (fun y hy => hb y (List.mem_cons_of_mem _ hy)) h
    exact ⟨⟨hb b (by simp), ih.1⟩, ih.2⟩
theorem scan (l0 : List UInt8) : ∀ (q : List UInt8) (k : Nat) (pre : List UInt8), l0 = pre ++ q → List.length pre = k → (∀ b ∈ pre, 128 ≤ b.toNat) → k ≤ 10 →
    ((octet_numLen_L0 q k = .inl () ∨ octet_numLen_L0 q k = .inr 0) ∧ r01_ReadNum_L0 l0 q k = .inl ()) ∨
    ∃ p rest, l0 = p ++ rest ∧ wfn p ∧ List.length p ≤ 10 ∧ octet_numLen_L0 q k = .inr ((List.length p : Nat) : Int) ∧
      r01_ReadNum_L0 l0 q k = (bnd (r01_ReadNum_L1 l0 (List.length p - 1) ((Int.toNat ((((List.length p - 1 : Nat)) : Int) + 1)) + 1) 0 (((List.length p - 1 : Nat)) : Int)) fun z => bnd (r01_Num z) fun y => if y ≠ List.take (List.length p - 1 + 1) l0 then Sum.inr (0, 0, 11) else Sum.inr (z, ((List.length p - 1 + 1 : Nat) : Int), 0))
  | [], k, pre, _, _, _, _ => .inl ⟨.inl rfl, rfl⟩
  | x :: q, k, pre, he, hk, hb, h10 => by
    unfold octet_numLen_L0 r01_ReadNum_L0
    by_cases h1 : k = 10
    · subst h1
      rw [if_pos (show ((10 : Nat) : Int) = 10 from rfl), if_neg (show ¬ ((10 : Nat) : Int) < 10 by omega)]
      exact .inl ⟨.inr rfl, rfl⟩
    · rw [if_neg (show ¬ ((k : Nat) : Int) = 10 by omega), if_pos (show ((k : Nat) : Int) < 10 by omega)]
      by_cases h2 : ((x.toNat : Nat) : Int) < 128
      · rw [if_pos h2, if_neg (show ¬ ((x.toNat : Nat) : Int) ≥ 128 by omega)]
        have hw := wfn_app pre x hb (by omega)
        have hl : List.length (pre ++ [x]) = k + 1 := by rw [List.length_append, hk]; rfl
        refine .inr ⟨pre ++ [x], q, by rw [he]; simp, hw.1, by omega, by rw [hl], ?_⟩
        rw [hl]
        rfl
      · rw [if_neg h2, if_pos (show ((x.toNat : Nat) : Int) ≥ 128 by omega)]
        exact scan l0 q (k + 1) (pre ++ [x]) (by rw [he]; simp) (by rw [List.length_append, hk]; rfl) (fun b hm => by
          rcases List.mem_append.1 hm with hm | hm
          · exact hb b hm
          · rw [List.mem_singleton] at hm; subst hm; omega) (by omega)
theorem horner (l0 p rest : List UInt8) (he : l0 = p ++ rest) (kk : Nat) : ∀ (z fuel acc : Nat), z ≤ List.length p → z < fuel → acc = dec (List.drop z p) % 18446744073709551616 →
    r01_ReadNum_L1 l0 kk fuel acc (((z : Nat) : Int) - 1) = dec p % 18446744073709551616
  | 0, fuel + 1, acc, _, _, ha => by
    unfold r01_ReadNum_L1
    rw [if_neg (by omega), ha, List.drop_zero]
  | z + 1, fuel + 1, acc, hz, hf, ha => by
    unfold r01_ReadNum_L1
    rw [if_pos (by omega), bnd_eq]
    have e1 : Int.toNat ((((z + 1 : Nat)) : Int) - 1) = z := by omega
    have e2 : ((((z + 1 : Nat)) : Int) - 1) - 1 = ((z : Nat) : Int) - 1 := by omega
    rw [e1, e2]
    refine horner l0 p rest he kk z fuel _ (by omega) (by omega) ?_
    have hx : List.getD l0 z default = p[z]'(by omega) := by
      rw [he, List.getD_eq_getElem?_getD, List.getElem?_append_left (by omega), List.getElem?_eq_getElem (by omega)]; rfl
    have hd : List.drop z p = p[z]'(by omega) :: List.drop (z + 1) p := List.drop_eq_getElem_cons (by omega)
    rw [hx, hd]
    show _ = (_ % 128 + 128 * dec (List.drop (z + 1) p)) % _
    have w1 := wrapN (acc * 128)
    rw [Int.natCast_mul] at w1
    have w1' : Int.toNat (IntKind.u64.wrap (((acc : Nat) : Int) * 128)) = acc * 128 % 18446744073709551616 := w1
    rw [w1']
    have w2 := wrapN (acc * 128 % 18446744073709551616 + (p[z]'(by omega)).toNat % 128)
    rw [Int.natCast_add] at w2
    rw [w2, ha]
    omega
theorem bShl64_eq (a s : Nat) (hs : s ≤ 64) : bShl64 a s = a * 2 ^ s % 18446744073709551616 := by
  unfold bShl64
  rw [Nat.min_eq_left hs]
  have := wrapN (a * 2 ^ s)
  rw [Int.natCast_mul, Int.natCast_pow] at this
  exact this
theorem and127 (b : UInt8) : (b &&& (127 : UInt8)).toNat = b.toNat % 128 := by
  rw [UInt8.toNat_and]
  show b.toNat &&& 127 = _
  exact Nat.and_two_pow_sub_one_eq_mod b.toNat 7
theorem dec_app : ∀ (p : List UInt8) (b : UInt8), dec (p ++ [b]) = dec p + (b.toNat % 128) * 128 ^ List.length p
  | [], b => by simp [dec]
  | c :: r, b => by
    show c.toNat % 128 + 128 * dec (r ++ [b]) = c.toNat % 128 + 128 * dec r + _
    rw [dec_app r b, List.length_cons, Nat.pow_succ, Nat.mul_add, ← Nat.mul_assoc (b.toNat % 128), Nat.mul_comm _ 128]
    omega
theorem dec_take_lt : ∀ (p : List UInt8), dec p < 128 ^ List.length p
  | [] => by simp [dec]
  | c :: r => by
    have := dec_take_lt r
    rw [List.length_cons, Nat.pow_succ]
    show c.toNat % 128 + 128 * dec r < _
    omega
theorem dec_take_le : ∀ (p : List UInt8) (k : Nat), dec (List.take k p) ≤ dec p
  | [], k => by simp
  | c :: r, 0 => by simp [dec]
  | c :: r, k + 1 => by
    have := dec_take_le r k
    show c.toNat % 128 + 128 * dec (List.take k r) ≤ c.toNat % 128 + 128 * dec r
    omega
theorem orloop (l0 p rest : List UInt8) (he : l0 = p ++ rest) (h10 : List.length p ≤ 10) (h64 : dec p < 18446744073709551616) : ∀ (q k acc : Nat), k + q = List.length p → acc = dec (List.take k p) →
    octet_ReadNum_L0 l0 ((List.length p : Nat) : Int) q acc k = dec p
  | 0, k, acc, hk, ha => by
    unfold octet_ReadNum_L0
    rw [ha, List.take_of_length_le (by omega)]
  | q + 1, k, acc, hk, ha => by
    unfold octet_ReadNum_L0
    rw [bnd_eq]
    refine orloop l0 p rest he h10 h64 q (k + 1) _ (by omega) ?_
    have hx : List.getD (List.take (Int.toNat ((List.length p : Nat) : Int)) l0) k default = p[k]'(by omega) := by
      rw [he, Int.toNat_natCast, List.take_left, List.getD_eq_getElem?_getD, List.getElem?_eq_getElem (by omega)]; rfl
    have ht : List.take (k + 1) p = List.take k p ++ [p[k]'(by omega)] := by rw [List.take_add_one, List.getElem?_eq_getElem (by omega)]; rfl
    have hl : List.length (List.take k p) = k := by rw [List.length_take]; omega
    have hle := dec_take_le p (k + 1)
    rw [ht, dec_app, hl] at hle
    have hlt := dec_take_lt (List.take k p)
    rw [hl, ← ha] at hlt
    rw [← ha] at hle
    rw [hx, ht, dec_app, hl, ← ha, and127, bShl64_eq _ _ (by omega)]
    have e7 : (2 : Nat) ^ (7 * k) = 128 ^ k := by rw [Nat.pow_mul]
    rw [e7]
    rw [Nat.mod_eq_of_lt (show _ < 18446744073709551616 by omega), bOr64_eq _ _ (by omega) (by omega)]
    have := Nat.shiftLeft_add_eq_or_of_lt (b := acc) (i := 7 * k) (by rw [e7]; exact hlt) ((p[k]'(by omega)).toNat % 128)
    rw [Nat.shiftLeft_eq, e7] at this
    rw [Nat.or_comm, ← this, Nat.add_comm]
theorem lst_last : ∀ (p rest : List UInt8), wfn p → List.getD (p ++ rest) (List.length p - 1) default = UInt8.ofNat (lst p) ∧ (List.getD (p ++ rest) (List.length p - 1) default).toNat = lst p
  | [], _, h => h.elim
  | [b], rest, h => ⟨(u8_eq (by rw [show lst [b] = b.toNat from rfl, toN _ (UInt8.toNat_lt b)]; rfl)).symm, rfl⟩
  | b :: c :: r, rest, h => by
    have := lst_last (c :: r) rest h.2
    exact this
theorem wfn_len {p : List UInt8} (h : wfn p) : 1 ≤ List.length p := by
  cases p with
  | nil => exact h.elim
  | cons => simp
theorem rn_eq (l : List UInt8) : octet_ReadNum l = r01_ReadNum l := by
  unfold octet_ReadNum r01_ReadNum octet_numLen
  rcases scan l l 0 [] rfl rfl (by simp) (by omega) with ⟨ha, hb⟩ | ⟨p, rest, he, hw, h10, ha, hb⟩
  · have e : (lp (octet_numLen_L0 l 0) fun _ => (0 : Int)) = 0 := by
      rcases ha with ha | ha <;> rw [ha] <;> rfl
    rw [e, hb, bnd_eq, if_pos rfl]
    rfl
  · have h1 := wfn_len hw
    have e : (lp (octet_numLen_L0 l 0) fun _ => (0 : Int)) = ((List.length p : Nat) : Int) := by rw [ha]; rfl
    rw [e, hb, bnd_eq, if_neg (by omega)]
    have hl1 : List.length p - 1 + 1 = List.length p := by omega
    have hz := horner l p rest he (List.length p - 1) (List.length p) (List.length p + 1) 0 (Nat.le_refl _) (by omega) (by rw [List.drop_of_length_le (Nat.le_refl _)]; rfl)
    have e1 : Int.toNat ((((List.length p - 1 : Nat)) : Int) + 1) = List.length p := by omega
    have e2 : (((List.length p - 1 : Nat)) : Int) = ((List.length p : Nat) : Int) - 1 := by omega
    rw [e1, bnd_eq (x := r01_ReadNum_L1 _ _ _ _ _), show ((List.length p - 1 : Nat) : Int) = ((List.length p : Nat) : Int) - 1 from e2, hz, bnd_eq, hl1]
    have ht : List.take (List.length p) l = p := by rw [he, List.take_left]
    rw [ht]
    have hg := lst_last p rest hw
    rw [← he] at hg
    have e3 : Int.toNat (((List.length p : Nat) : Int) - 1) = List.length p - 1 := by omega
    rw [e3, bnd_eq, hg.2]
    obtain ⟨d1, d2, d3⟩ := dec_lt p hw
    obtain ⟨n1, n2, n3, n4⟩ := num_props (dec p % 18446744073709551616)
    by_cases hc : (List.length p = 1 ∨ lst p ≠ 0) ∧ (List.length p < 10 ∨ lst p ≤ 1)
    · have h64 : dec p < 18446744073709551616 := by
        rcases hc.2 with h | h
        · have : (128 : Nat) ^ (List.length p - 1) ≤ 128 ^ 8 := Nat.pow_le_pow_right (by decide) (by omega)
          have h2 : (lst p + 1) * 128 ^ (List.length p - 1) ≤ 128 * 128 ^ 8 := Nat.mul_le_mul (by omega) this
          have : (128 : Nat) * 128 ^ 8 < 18446744073709551616 := by decide
          omega
        · have : (128 : Nat) ^ (List.length p - 1) ≤ 128 ^ 9 := Nat.pow_le_pow_right (by decide) (by omega)
          have h2 : (lst p + 1) * 128 ^ (List.length p - 1) ≤ 2 * 128 ^ 9 := Nat.mul_le_mul (by omega) this
          have : (2 : Nat) * 128 ^ 9 = 18446744073709551616 := by decide
          omega
      have ec : (if ((List.length p : Nat) : Int) > 1 then if ((lst p : Nat) : Int) = 0 then true else if ((List.length p : Nat) : Int) = 10 then decide (((lst p : Nat) : Int) > 1) else false else false) = false := by
        by_cases a1 : ((List.length p : Nat) : Int) > 1
        · rw [if_pos a1, if_neg (by omega)]
          by_cases a2 : ((List.length p : Nat) : Int) = 10
          · rw [if_pos a2]; exact decide_eq_false (by omega)
          · rw [if_neg a2]
        · rw [if_neg a1]
      rw [ec, bnd_eq, if_neg (by decide), Int.toNat_natCast, orloop l p rest he h10 h64 (List.length p) 0 0 (by omega) (by simp [dec]), bnd_eq]
      rw [Nat.mod_eq_of_lt h64, num_of p hw hc.1, if_neg (by simp)]
      rfl
    · have ec : (if ((List.length p : Nat) : Int) > 1 then if ((lst p : Nat) : Int) = 0 then true else if ((List.length p : Nat) : Int) = 10 then decide (((lst p : Nat) : Int) > 1) else false else false) = true := by
        by_cases a1 : ((List.length p : Nat) : Int) > 1
        · rw [if_pos a1]
          by_cases a0 : ((lst p : Nat) : Int) = 0
          · rw [if_pos a0]
          · rw [if_neg a0, if_pos (by omega)]; exact decide_eq_true (by omega)
        · omega
      rw [ec, bnd_eq, if_pos rfl]
      have hne : r01_Num (dec p % 18446744073709551616) ≠ p := fun hq => by
        rw [hq] at n1 n2 n3 n4
        by_cases hz0 : dec p % 18446744073709551616 = 0
        · have := n4 hz0
          omega
        · have h3 := n3 (by omega)
          have h10' : List.length p = 10 := by omega
          rw [h10'] at d2
          have : (2 : Nat) * 128 ^ 9 = 18446744073709551616 := by decide
          have h5 : 2 * 128 ^ (10 - 1) ≤ lst p * 128 ^ (10 - 1) := Nat.mul_le_mul (by omega) (Nat.le_refl _)
          have := Nat.mod_lt (dec p) (show 0 < 18446744073709551616 by decide)
          omega
      rw [bnd_eq, if_pos hne]
      rfl
theorem b_or128 (n : Nat) : (UInt8.ofNat n ||| (128 : UInt8)) = UInt8.ofNat (n % 128) + (128 : UInt8) := by
  have h : ∀ x : _root_.Fin 256, (UInt8.ofNat x.val ||| (128 : UInt8)) = UInt8.ofNat (x.val % 128) + (128 : UInt8) := by decide +kernel
  have e : UInt8.ofNat n = UInt8.ofNat (n % 256) := by
    apply UInt8.toNat_inj.1
    simp only [UInt8.toNat_ofNat']
    omega
  have h2 := h ⟨n % 256, Nat.mod_lt _ (by decide)⟩
  rw [e, h2]
  show UInt8.ofNat (n % 256 % 128) + _ = _
  rw [show n % 256 % 128 = n % 128 by omega]
theorem num_L : ∀ (f n : Nat) (l : List UInt8), n < f → (octet_Num_L0 f n l).2 ++ [UInt8.ofNat (octet_Num_L0 f n l).1] = l ++ r01_Num n
  | 0, n, l, h => absurd h (Nat.not_lt_zero _)
  | f + 1, n, l, h => by
    unfold octet_Num_L0
    by_cases c : ((n : Nat) : Int) ≥ 128
    · rw [if_pos c, num_L f (n / 128) _ (by omega), r01_Num_eq n, if_neg (by omega), bnd_eq, b_or128, List.append_assoc]
    · rw [if_neg c, r01_Num_eq n, if_pos (by omega)]
theorem num_eq (n : Nat) : octet_Num n = r01_Num n := by
  unfold octet_Num
  rw [bnd_eq, num_L (n + 1) n [] (by omega), List.nil_append]
end Go.Proofs.YtccjclalngabhaaGreat
