/-
  The mathematics of the sum of 32 bits: one step, n steps, bytes as one great number; a difference within 32 bits never falls to nought.
  Conditions: none.
-/
import Derived.Lib.Hide
namespace Go.Proofs.YtccjclalngabhaaGreat.Z
theorem x_lc (a b c : Nat) : a ^^^ (b ^^^ c) = b ^^^ (a ^^^ c) := by rw [← Nat.xor_assoc, Nat.xor_comm a b, Nat.xor_assoc]
def st (r : Nat) : Nat := if r % 2 = 1 then (r / 2) ^^^ 3988292384 else r / 2
theorem xor_mod2 (a b : Nat) : (a ^^^ b) % 2 = (a % 2) ^^^ (b % 2) := by
  have := Nat.xor_mod_two_pow (a := a) (b := b) (n := 1)
  simpa using this
theorem st_xor (a b : Nat) : st (a ^^^ b) = st a ^^^ st b := by
  unfold st
  rw [xor_mod2, Nat.xor_div_two]
  rcases Nat.mod_two_eq_zero_or_one a with ha | ha <;> rcases Nat.mod_two_eq_zero_or_one b with hb | hb <;> simp only [ha, hb]
  · simp
  · simp [Nat.xor_assoc]
  · simp only [Nat.xor_zero, if_true, Nat.zero_ne_one, if_false]
    rw [Nat.xor_assoc, Nat.xor_comm (b / 2), ← Nat.xor_assoc]
  · simp only [Nat.xor_self, Nat.zero_ne_one, if_false, if_true]
    rw [Nat.xor_assoc (a / 2), x_lc 3988292384, Nat.xor_self, Nat.xor_zero]
theorem st_twice (a : Nat) : st (2 * a) = a := by unfold st; rw [if_neg (by omega)]; omega
theorem st_lt {r : Nat} (h : r < 2 ^ 32) : st r < 2 ^ 32 := by
  unfold st
  split
  · exact Nat.xor_lt_two_pow (by omega) (by decide)
  · omega
theorem st_zero {r : Nat} (h : r < 2 ^ 32) (h0 : st r = 0) : r = 0 := by
  unfold st at h0
  split at h0
  · have e : r / 2 = 3988292384 := by
      have := congrArg (fun x => x ^^^ 3988292384) h0
      simpa [Nat.xor_assoc] using this
    omega
  · omega
def sts : Nat → Nat → Nat
  | 0, r => r
  | n + 1, r => sts n (st r)
theorem sts_xor (n : Nat) : ∀ a b, sts n (a ^^^ b) = sts n a ^^^ sts n b := by
  induction n with
  | zero => intro a b; rfl
  | succ n ih => intro a b; rw [sts, st_xor, ih]; rfl
theorem sts_add (m : Nat) : ∀ n r, sts (m + n) r = sts n (sts m r) := by
  induction m with
  | zero => intro n r; rw [Nat.zero_add]; rfl
  | succ m ih => intro n r; rw [Nat.succ_add, sts, ih]; rfl
theorem sts_pow (n : Nat) : ∀ a, sts n (2 ^ n * a) = a := by
  induction n with
  | zero => intro a; simp [sts]
  | succ n ih => intro a; rw [sts, Nat.pow_succ, Nat.mul_comm (2 ^ n) 2, Nat.mul_assoc, st_twice, ih]
theorem sts_lt (n : Nat) : ∀ {r}, r < 2 ^ 32 → sts n r < 2 ^ 32 := by
  induction n with
  | zero => intro r h; exact h
  | succ n ih => intro r h; exact ih (st_lt h)
theorem sts_zero (n : Nat) : ∀ {r}, r < 2 ^ 32 → sts n r = 0 → r = 0 := by
  induction n with
  | zero => intro r _ h; exact h
  | succ n ih => intro r h h0; exact st_zero h (ih (st_lt h) h0)
theorem sts_of_zero (n : Nat) : sts n 0 = 0 := by
  induction n with
  | zero => rfl
  | succ n ih => rw [sts]; exact ih
theorem nib (r : Nat) : sts 4 r = (r / 16) ^^^ sts 4 (r % 16) := by
  have e : r = (2 ^ 4 * (r / 16)) ^^^ (r % 16) := by
    apply Nat.eq_of_testBit_eq
    intro i
    have h1 := Nat.testBit_mod_two_pow r 4 i
    have h2 := Nat.testBit_mul_two_pow (r / 2 ^ 4) i 4
    rw [Nat.testBit_xor, Nat.mul_comm, show (16 : Nat) = 2 ^ 4 from rfl, h1, h2, Nat.testBit_div_two_pow]
    by_cases h : i < 4
    · simp [h, Nat.not_le.2 h]
    · simp [h, Nat.not_lt.1 h]
  calc sts 4 r = sts 4 ((2 ^ 4 * (r / 16)) ^^^ (r % 16)) := by rw [← e]
    _ = _ := by rw [sts_xor, sts_pow]
def crc (r : Nat) (xs : List UInt8) : Nat := xs.foldl (fun r x => sts 8 (r ^^^ x.toNat)) r
theorem crc_nil (r : Nat) : crc r [] = r := rfl
theorem crc_cons (r : Nat) (x : UInt8) (xs : List UInt8) : crc r (x :: xs) = crc (sts 8 (r ^^^ x.toNat)) xs := by unfold crc; rw [List.foldl_cons]
def word : List UInt8 → Nat
  | [] => 0
  | x :: xs => x.toNat ^^^ (256 * word xs)
theorem crc_word : ∀ (xs : List UInt8) (r : Nat), crc r xs = sts (8 * xs.length) (r ^^^ word xs)
  | [], r => by rw [crc_nil, word, Nat.xor_zero]; rfl
  | x :: xs, r => by
    rw [crc_cons, crc_word xs, word, List.length_cons, Nat.mul_add, Nat.add_comm (8 * xs.length), sts_add (8 * 1), ← Nat.xor_assoc, sts_xor 8 (r ^^^ x.toNat) (256 * word xs), show 256 * word xs = 2 ^ 8 * word xs from rfl, sts_pow]
theorem crc_snoc (xs : List UInt8) (x : UInt8) : ∀ r, crc r (xs ++ [x]) = sts 8 (crc r xs ^^^ x.toNat) := by
  induction xs with
  | nil => intro r; rw [List.nil_append, crc_cons, crc_nil, crc_nil]
  | cons y ys ih => intro r; rw [List.cons_append, crc_cons, ih, crc_cons]
theorem crc_lt : ∀ (xs : List UInt8) {r : Nat}, r < 2 ^ 32 → crc r xs < 2 ^ 32
  | [], _, h => by rw [crc_nil]; exact h
  | x :: xs, _, h => by rw [crc_cons]; exact crc_lt xs (sts_lt 8 (Nat.xor_lt_two_pow h (Nat.lt_trans x.toNat_lt (by decide))))
theorem crc_take {xs : List UInt8} {j : Nat} {x : UInt8} (h : xs[j]? = some x) (r : Nat) : crc r (xs.take (j + 1)) = sts 8 (crc r (xs.take j) ^^^ x.toNat) := by
  obtain ⟨hj, rfl⟩ := List.getElem?_eq_some_iff.1 h
  rw [List.take_succ_eq_append_getElem hj, crc_snoc]
def sum32 (xs : List UInt8) : Nat := crc 4294967295 xs ^^^ 4294967295
theorem x_cancel {a b c : Nat} (h : a ^^^ c = b ^^^ c) : a = b := by
  have := congrArg (fun x => x ^^^ c) h
  simpa [Nat.xor_assoc] using this
theorem x_eq {a b : Nat} : a ^^^ b = 0 ↔ a = b := by
  constructor
  · intro h
    have := congrArg (fun x => x ^^^ b) h
    simpa [Nat.xor_assoc] using this
  · rintro rfl; exact Nat.xor_self a
theorem sum_differs {xs ys : List UInt8} {at_ d : Nat} (hl : xs.length = ys.length) (hw : word xs ^^^ word ys = 2 ^ at_ * d) (hd : d < 2 ^ 32) (ha : at_ ≤ 8 * xs.length) : sum32 xs = sum32 ys ↔ d = 0 := by
  have e1 : crc 4294967295 xs ^^^ crc 4294967295 ys = sts (8 * xs.length - at_) d := by
    rw [crc_word, crc_word, ← hl, ← sts_xor]
    have : 4294967295 ^^^ word xs ^^^ (4294967295 ^^^ word ys) = word xs ^^^ word ys := by
      rw [Nat.xor_comm 4294967295 (word xs), Nat.xor_assoc, ← Nat.xor_assoc 4294967295 4294967295, Nat.xor_self, Nat.zero_xor]
    obtain ⟨m, hm⟩ : ∃ m, 8 * xs.length = at_ + m := ⟨8 * xs.length - at_, by omega⟩
    rw [this, hw, hm, sts_add, sts_pow, Nat.add_sub_cancel_left]
  constructor
  · intro h
    have h2 : crc 4294967295 xs = crc 4294967295 ys := x_cancel h
    rw [h2, Nat.xor_self] at e1
    exact sts_zero _ hd e1.symm
  · intro h
    subst h
    rw [sts_of_zero] at e1
    unfold sum32
    rw [x_eq.1 e1]
theorem mul_xor (k a b : Nat) : 2 ^ k * a ^^^ 2 ^ k * b = 2 ^ k * (a ^^^ b) := by
  apply Nat.eq_of_testBit_eq
  intro i
  rw [Nat.testBit_xor, Nat.mul_comm _ a, Nat.mul_comm _ b, Nat.mul_comm _ (a ^^^ b), Nat.testBit_mul_two_pow, Nat.testBit_mul_two_pow, Nat.testBit_mul_two_pow, Nat.testBit_xor]
  by_cases h : k ≤ i <;> simp [h]
theorem word_set : ∀ (xs : List UInt8) (i : Nat) (h : i < xs.length) (y : UInt8), word xs ^^^ word (xs.set i y) = 2 ^ (8 * i) * (xs[i].toNat ^^^ y.toNat)
  | [], i, h, _ => by simp at h
  | x :: xs, 0, _, y => by
    rw [List.set_cons_zero, word, word, Nat.xor_comm y.toNat, Nat.xor_assoc, ← Nat.xor_assoc (256 * word xs), Nat.xor_self, Nat.zero_xor]
    simp
  | x :: xs, i + 1, h, y => by
    rw [List.set_cons_succ, word, word, Nat.xor_comm x.toNat (256 * word xs), Nat.xor_assoc, ← Nat.xor_assoc x.toNat x.toNat, Nat.xor_self, Nat.zero_xor, show 256 * word xs = 2 ^ 8 * word xs from rfl,
      show 256 * word (xs.set i y) = 2 ^ 8 * word (xs.set i y) from rfl, mul_xor, word_set xs i (by simpa using h) y, List.getElem_cons_succ, ← Nat.mul_assoc, ← Nat.pow_add, show 8 + 8 * i = 8 * (i + 1) by omega]
theorem sum_lt (xs : List UInt8) : sum32 xs < 4294967296 := Nat.xor_lt_two_pow (n := 32) (crc_lt xs (by decide)) (by decide)
end Go.Proofs.YtccjclalngabhaaGreat.Z
