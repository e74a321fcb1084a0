/-
  The mathematics of the sum of 32 bits: one step, n steps, bytes as one great number; a difference within 32 bits never falls to nought.
  Conditions: none.
-/
import Derived.Lib.Hide
namespace Go.Proofs.YtccjclalngabhaaGreat.Z
theorem x_lc (a b c : Nat) : a ^^^ (b ^^^ c) = b ^^^ (a ^^^ c) := by rw [← Nat.xor_assoc, Nat.xor_comm a b, Nat.xor_assoc]
def st (r : Nat) : Nat := if r % 2 = 1 then (r / 2) ^^^ 3988292384 else r / 2
theorem xor_mod2 (a b : Nat) : (a ^^^ b) % 2 = (a % 2) ^^^ (b % 2) := by
  have := Nat.xor_mod_two_pow (a := a) (b := b) (n := 1)
  simpa using this
theorem st_xor (a b : Nat) : st (a ^^^ b) = st a ^^^ st b := by
  unfold st
  rw [xor_mod2, Nat.xor_div_two]
  rcases Nat.mod_two_eq_zero_or_one a with ha | ha <;> rcases Nat.mod_two_eq_zero_or_one b with hb | hb <;> simp only [ha, hb]
  · simp
  · simp [Nat.xor_assoc]
  · simp only [Nat.xor_zero, if_true, Nat.zero_ne_one, if_false]
    rw [Nat.xor_assoc, Nat.xor_comm (b / 2), ← Nat.xor_assoc]
  · simp only [Nat.xor_self, Nat.zero_ne_one, if_false, if_true]
    rw [Nat.xor_assoc (a / 2), x_lc 3988292384, Nat.xor_self, Nat.xor_zero]
theorem st_twice (a : Nat) : st (2 * a) = a := by unfold st; rw [if_neg (by omega)]; omega
theorem st_lt {r : Nat} (h : r < 2 ^ 32) : st r < 2 ^ 32 := by
  unfold st
  split
  · exact Nat.xor_lt_two_pow (by omega) (by decide)
  · omega
def sts : Nat → Nat → Nat
  | 0, r => r
  | n + 1, r => sts n (st r)
theorem sts_xor (n : Nat) : ∀ a b, sts n (a ^^^ b) = sts n a ^^^ sts n b := by
  induction n with
  | zero => intro a b; rfl
  | succ n ih => intro a b; rw [sts, st_xor, ih]; rfl
theorem sts_add (m : Nat) : ∀ n r, sts (m + n) r = sts n (sts m r) := by
  induction m with
  | zero => intro n r; rw [Nat.zero_add]; rfl
  | succ m ih => intro n r; rw [Nat.succ_add, sts, ih]; rfl
theorem sts_pow (n : Nat) : ∀ a, sts n (2 ^ n * a) = a := by
  induction n with
  | zero => intro a; simp [sts]
  | succ n ih => intro a; rw [sts, Nat.pow_succ, Nat.mul_comm (2 ^ n) 2, Nat.mul_assoc, st_twice, ih]
theorem sts_lt (n : Nat) : ∀ {r}, r < 2 ^ 32 → sts n r < 2 ^ 32 := by
  induction n with
  | zero => intro r h; exact h
  | succ n ih => intro r h; exact ih (st_lt h)
theorem nib (r : Nat) : sts 4 r = (r / 16) ^^^ sts 4 (r % 16) := by
  have e : r = (2 ^ 4 * (r / 16)) ^^^ (r % 16) := by
    apply Nat.eq_of_testBit_eq
    intro i
    have h1 := Nat.testBit_mod_two_pow r 4 i
    have h2 := Nat.testBit_mul_two_pow (r / 2 ^ 4) i 4
    rw [Nat.testBit_xor, Nat.mul_comm, show (16 : Nat) = 2 ^ 4 from rfl, h1, h2, Nat.testBit_div_two_pow]
    by_cases h : i < 4
    · simp [h, Nat.not_le.2 h]
    · simp [h, Nat.not_lt.1 h]
  calc sts 4 r = sts 4 ((2 ^ 4 * (r / 16)) ^^^ (r % 16)) := by rw [← e]
    _ = _ := by rw [sts_xor, sts_pow]
def crc (r : Nat) (xs : List UInt8) : Nat := xs.foldl (fun r x => sts 8 (r ^^^ x.toNat)) r
theorem crc_nil (r : Nat) : crc r [] = r := rfl
theorem crc_cons (r : Nat) (x : UInt8) (xs : List UInt8) : crc r (x :: xs) = crc (sts 8 (r ^^^ x.toNat)) xs := by unfold crc; rw [List.foldl_cons]
theorem crc_snoc (xs : List UInt8) (x : UInt8) : ∀ r, crc r (xs ++ [x]) = sts 8 (crc r xs ^^^ x.toNat) := by
  induction xs with
  | nil => intro r; rw [List.nil_append, crc_cons, crc_nil, crc_nil]
  | cons y ys ih => intro r; rw [List.cons_append, crc_cons, ih, crc_cons]
theorem crc_lt : ∀ (xs : List UInt8) {r : Nat}, r < 2 ^ 32 → crc r xs < 2 ^ 32
  | [], _, h => by rw [crc_nil]; exact h
  | x :: xs, _, h => by rw [crc_cons]; exact crc_lt xs (sts_lt 8 (Nat.xor_lt_two_pow h (Nat.lt_trans x.toNat_lt (by decide))))
theorem crc_take {xs : List UInt8} {j : Nat} {x : UInt8} (h : xs[j]? = some x) (r : Nat) : crc r (xs.take (j + 1)) = sts 8 (crc r (xs.take j) ^^^ x.toNat) := by
  obtain ⟨hj, rfl⟩ := List.getElem?_eq_some_iff.1 h
  rw [List.take_succ_eq_append_getElem hj, crc_snoc]
def sum32 (xs : List UInt8) : Nat := crc 4294967295 xs ^^^ 4294967295
theorem sum_lt (xs : List UInt8) : sum32 xs < 4294967296 := Nat.xor_lt_two_pow (n := 32) (crc_lt xs (by decide)) (by decide)
end Go.Proofs.YtccjclalngabhaaGreat.Z
