/-
  Numbers and texts as bytes: what ReadText answers.
-/
import Derived.Test.YtccjclalngabhaaGreatOctC
namespace Go.Proofs.YtccjclalngabhaaGreat.Z
open Go.RowKit
theorem num_len {n : Nat} (h : n < 18446744073709551616) : (num n).length ≤ 10 := by
  have aux : ∀ (k n : Nat), n < 128 ^ (k + 1) → (num n).length ≤ k + 1 := by
    intro k
    induction k with
    | zero => intro n hn; rw [num_lt (by omega)]; simp
    | succ k ih =>
      intro n hn
      by_cases hlt : n < 128
      · rw [num_lt hlt]; simp
      · rw [num_ge hlt, List.length_cons]
        have := ih (n / 128) (by rw [Nat.pow_succ] at hn; exact Nat.div_lt_of_lt_mul (by omega))
        omega
  exact aux 9 n (Nat.lt_of_lt_of_le h (by decide))
end Go.Proofs.YtccjclalngabhaaGreat.Z
